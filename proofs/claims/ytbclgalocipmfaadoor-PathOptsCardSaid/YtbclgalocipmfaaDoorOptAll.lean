/-
  Options looked up, left out, added.
-/
/-
  The values of a number.
-/
import Derived.Test.YtbclgalocipmfaaDoorOptNum
import Derived.Test.YtbclgalocipmfaaDoorJArgs
namespace Go.Proofs.YtbclgalocipmfaaDoor
open Go.RowKit
set_option maxRecDepth 100000
set_option linter.unusedVariables false
/-- Options returned. -/
def RetOs (ps : List (Int × List UInt8)) (w : World) (e : Ending) (w' : World) : Prop :=
  ∃ A n c us, e = .returned (.slice A n c) ∧ (n ≤ c ∧ c ≤ maxLen) ∧ Hid (n = ps.length) ∧ Os w' w'.heap.size A n us ps ∧ Below w.heap.size w w'
theorem RetOpts.ret {ps : List (Int × List UInt8)} {w w' : World} {e : Ending} (h : RetOpts ps w e w') : RetOs ps w e w' := h.slice_
theorem RetOs.trans {ps : List (Int × List UInt8)} {w w1 w' : World} {e : Ending} (h : RetOs ps w1 e w') (hb : Below w.heap.size w w1) : RetOs ps w e w' := by
  obtain ⟨A, n, c, us, h1, h2, h3, h4, h5⟩ := h
  exact ⟨A, n, c, us, h1, h2, h3, h4, hb.trans (h5.mono hb.size)⟩
theorem Os.mx {w : World} {B n : Nat} {A : Option Addr} {vs : List Sv} {ps : List (Int × List UInt8)} (h : Os w B A n vs ps) {m : Nat} (hm : ∀ x ∈ ps, x.2.length ≤ m) : ∀ s ∈ vs, s.n ≤ m := by
  intro s hs
  obtain ⟨i, hi⟩ := List.mem_iff_getElem?.1 hs
  obtain ⟨l, hl, hb⟩ := h.get hi
  have := hm _ (List.mem_of_getElem? hl)
  have e := hb.len
  simp only at this
  omega
/-- With one more, ahead of the first of a greater number. -/
def addO (num : Int) (l : List UInt8) : List (Int × List UInt8) → List (Int × List UInt8)
  | [] => [(num, l)]
  | x :: r => if num < x.1 then (num, l) :: x :: r else x :: addO num l r
theorem addO_at (num : Int) (l : List UInt8) : ∀ (ps : List (Int × List UInt8)) (k : Nat), k ≤ ps.length → (∀ (j : Nat) (x : Int × List UInt8), j < k → ps[j]? = some x → ¬ num < x.1) → (∀ x, ps[k]? = some x → num < x.1) → addO num l ps = ps.take k ++ [(num, l)] ++ ps.drop k
  | [], k, hk, _, _ => by
    have : k = 0 := by simpa using hk
    subst this; rfl
  | x :: r, 0, _, _, h2 => by
    rw [addO, if_pos (h2 x rfl)]; rfl
  | x :: r, k + 1, hk, h1, h2 => by
    rw [addO, if_neg (h1 0 x (by omega) rfl), addO_at num l r k (by simpa using hk) (fun j y hj hy => h1 (j + 1) y (by omega) hy) (fun y hy => h2 y hy)]
    rfl
theorem addO_len (num : Int) (l : List UInt8) (ps : List (Int × List UInt8)) : (addO num l ps).length = ps.length + 1 := by
  induction ps with
  | nil => rfl
  | cons x r ih =>
    rw [addO]
    split
    · rfl
    · rw [List.length_cons, ih]; rfl
theorem addO_mem (num : Int) (l : List UInt8) (ps : List (Int × List UInt8)) : ∀ x ∈ addO num l ps, x = (num, l) ∨ x ∈ ps := by
  induction ps with
  | nil => intro x hx; left; simpa [addO] using hx
  | cons y r ih =>
    intro x hx
    rw [addO] at hx
    split at hx
    · rcases List.mem_cons.1 hx with h | h
      · exact .inl h
      · exact .inr h
    · rcases List.mem_cons.1 hx with h | h
      · exact .inr (h ▸ List.mem_cons_self)
      · rcases ih x h with h | h
        · exact .inl h
        · exact .inr (List.mem_cons_of_mem _ h)
def getB (num : Int) (ps : List (Int × List UInt8)) : List UInt8 × Bool := match ps.find? (fun x => x.1 == num) with | some x => (x.2, true) | none => ([], false)
/-- Bytes in rows of the call's own. -/
def Rb (w : World) (base : Nat) (us : List Value) (ls : List (List UInt8)) : Prop :=
  us.length = ls.length ∧ ∀ (i : Nat) (u : Value) (l : List UInt8), us[i]? = some u → ls[i]? = some l → w.ownsRow base 5 1 u l.length (U8 l)
theorem Rb.kept {w w' : World} {base : Nat} {us : List Value} {ls : List (List UInt8)} (h : Rb w base us ls) (h2 : ∀ (g : Nat) (cs : Array Value), w.heap[g]? = some (.cells cs 5 (0, 0)) → w'.heap[g]? = w.heap[g]?) : Rb w' base us ls :=
  ⟨h.1, fun i u l hu hl => row_kept (h.2 i u l hu hl) fun g cs _ hb => h2 g cs hb⟩
theorem Rb.below {w w' : World} {base : Nat} {us : List Value} {ls : List (List UInt8)} (h : Rb w base us ls) (hb : Below w.heap.size w w') : Rb w' base us ls := h.kept fun g cs hg => hb.block g (Array.getElem?_eq_some_iff.1 hg).1
theorem Rb.grown {w w' : World} {base n : Nat} {us : List Value} {ls : List (List UInt8)} {v : Value} {xs : List Value} (h : Rb w base us ls) (ho : w.ownsRow base 24 1 v n xs) (hg : w.grownBy w' v.ownBlock) : Rb w' base us ls := h.kept fun g cs hb => hg.block g (Array.getElem?_eq_some_iff.1 hb).1 (fun e => by
  rcases ho.2 with ⟨rfl, _⟩ | ⟨g', cap, cur, rfl, _, h4, _⟩
  · cases e
  · have e' : g = g' := by injection e
    subst e'
    rw [hb] at h4
    injection h4 with h4
    injection h4 with _ h4
    exact absurd h4 (by decide))
theorem Rb.push {w : World} {base : Nat} {us : List Value} {ls : List (List UInt8)} {u : Value} {l : List UInt8} (h : Rb w base us ls) (hu : w.ownsRow base 5 1 u l.length (U8 l)) : Rb w base (us ++ [u]) (ls ++ [l]) := by
  refine ⟨by simp [h.1], fun i t y ht hy => ?_⟩
  have hl := h.1
  by_cases hi : i < us.length
  · rw [List.getElem?_append_left hi] at ht
    rw [List.getElem?_append_left (by omega)] at hy
    exact h.2 i t y ht hy
  · have hi2 : i = us.length := by
      have := (List.getElem?_eq_some_iff.1 ht).1
      simp at this; omega
    subst hi2
    rw [List.getElem?_append_right (Nat.le_refl _), Nat.sub_self] at ht
    rw [hl, List.getElem?_append_right (Nat.le_refl _), Nat.sub_self] at hy
    obtain rfl := Option.some.inj ht
    obtain rfl := Option.some.inj hy
    exact hu
theorem Rb.pc {w : World} {base n : Nat} {us : List Value} {ls : List (List UInt8)} {v : Value} (h : Rb w base us ls) (ho : w.ownsRow base 24 1 v n us) : ∃ A c, v = .slice A n c ∧ n ≤ c ∧ Pc w w.heap.size A n ls := by
  have hul : us.length = n := by have := ho.1; omega
  have ho' := ho
  rcases ho.2 with ⟨rfl, hn⟩ | ⟨g, cap, cur, rfl, hbg, hg, hnc, _, hcs, htake⟩
  · subst hn
    have : ls = [] := List.eq_nil_of_length_eq_zero (by rw [← h.1, hul])
    subst this
    exact ⟨none, 0, rfl, Nat.le_refl _, Pc.none _ _ _⟩
  · refine ⟨_, cap, rfl, hnc, by rw [← h.1, hul], fun hn => ⟨g, 0, rfl, (Array.getElem?_eq_some_iff.1 hg).1, fun i l hl => ?_⟩⟩
    have hil := (List.getElem?_eq_some_iff.1 hl).1
    obtain ⟨u, hu⟩ : ∃ u, us[i]? = some u := ⟨_, List.getElem?_eq_getElem (by rw [h.1]; exact hil)⟩
    obtain ⟨A', c', rfl, hc', hb⟩ := Bs.of_own (h.2 i u l hu hl)
    exact ⟨A', _, c', by rw [Nat.zero_add, ho'.cellAt i (by rw [h.1] at hul; omega)]; exact hu, hc', hb⟩
theorem info_sl : (Tryd.prog.info? 24).map (fun i => (i.zero, i.size, i.bytes)) = some (some (.slice none 0 0), 1, 24) := by kernel_rfl
def allO (num : Int) (ps : List (Int × List UInt8)) : List (List UInt8) := (ps.filter fun x => x.1 == num).map (·.2)
theorem allO_step {num : Int} {ps : List (Int × List UInt8)} {k : Nat} {x : Int × List UInt8} (h : ps[k]? = some x) : allO num (ps.take (k + 1)) = allO num (ps.take k) ++ (if (x.1 == num) = true then [x.2] else []) := by
  unfold allO
  rw [List.take_add_one, h, List.filter_append, List.map_append]
  congr 1
  cases e : (x.1 == num) <;> simp [List.filter, e]
/-- Pieces returned, in rows of the call's own. -/
def RetPr (ls : List (List UInt8)) (w : World) (e : Ending) (w' : World) : Prop :=
  ∃ A n c us, e = .returned (.slice A n c) ∧ n ≤ c ∧ Hid (n = ls.length) ∧ Pc w' w'.heap.size A n ls ∧ Below w.heap.size w w' ∧ us.length = n ∧ w'.ownsRow w.heap.size 24 1 (.slice A n c) n us ∧ Rb w' w.heap.size us ls
/-- Pieces returned. -/
def RetPc (ls : List (List UInt8)) (w : World) (e : Ending) (w' : World) : Prop :=
  ∃ A n c, e = .returned (.slice A n c) ∧ n ≤ c ∧ Hid (n = ls.length) ∧ Pc w' w'.heap.size A n ls ∧ Below w.heap.size w w'
theorem of_b (num : Int) (w : World) : Calls Tryd.prog 82 #[.int .i64 num] w fun e w' => e = .returned (.func (.func 111) #[] #[.pointer (some ⟨w.heap.size, 0, none⟩)]) ∧ Below w.heap.size w w' ∧ w'.heap[w.heap.size]? = some (.cells #[.int .i64 num] 3 (0, 0)) := by
  go_enter Tryd.func82, Tryd.ntmps82
  go_wp2
  go_ret
  exact ⟨rfl, (Below.refl _ _).alloc (Nat.le_refl _) _, heap_alloc_new w _⟩
theorem cap_cell {w : World} {b : Nat} {num : Int} (h : w.heap[b]? = some (.cells #[.int .i64 num] 3 (0, 0))) : b < w.heap.size ∧ w.cell? ⟨b, 0, none⟩ = some (.int .i64 num) :=
  ⟨(Array.getElem?_eq_some_iff.1 h).1, by rw [cell_of_row _ _ _ _ _ _ h]; rfl⟩
theorem cap_ne {w : World} {b base size n : Nat} {num : Int} {e : TypeId} {v : Value} {xs : List Value} (h : w.heap[b]? = some (.cells #[.int .i64 num] 3 (0, 0))) (ho : w.ownsRow base e size v n xs) (he : e ≠ 3) : some b ≠ v.ownBlock := fun e1 => by
  rcases ho.2 with ⟨rfl, _⟩ | ⟨g', cap, cur, rfl, _, h4, _⟩
  · cases e1
  · have e' : b = g' := by injection e1
    subst e'
    rw [h] at h4
    injection h4 with h4
    injection h4 with _ h4
    exact he h4.symm
set_option maxHeartbeats 4000000 in
theorem all_r (num : Int) (A : Option Addr) (n c : Nat) (vs : List Sv) (ps : List (Int × List UInt8)) (w : World) (B : Nat) (hos : Os w B A n vs ps) (hB : B ≤ w.heap.size) (hn : n ≤ 1048576) (hmx : ∀ x ∈ ps, x.2.length ≤ 1048576) :
    Calls Tryd.prog 57 #[.slice A n c, .int .i64 num] w (RetPr (allO num ps) w) := by
  obtain ⟨i0, hi0, hz0, hz1, hz2⟩ := info_parts info_sl
  have hnI : (n : Int) ≤ 1048576 := by omega
  have hof := of_b num w
  have HO : Aside _ := And.intro hos (And.intro hmx hos.plen)
  have eg := fn_of
  unfold Fn at eg
  clear hos hmx
  go_enter Tryd.func57, Tryd.ntmps57
  go_wp2_with (go_at_call 82; refine hof.mono ?_; rintro e w1 ⟨rfl, b1, c1⟩; have H1 : Aside _ := And.intro b1 c1; clear b1 c1)
  go_loopw [5, 8, 13] (fun v _ i wr => ∃ (k : Nat) (us : List Value), k ≤ n ∧ i = .int .i64 k ∧ wr.ownsRow w.heap.size 24 1 v us.length us ∧ Rb wr w.heap.size us (allO num (ps.take k)) ∧ Below w.heap.size w wr ∧ Aside (wr.heap[w.heap.size]? = some (.cells #[.int .i64 num] 3 (0, 0)))) (fun _ _ i _ => n - (intOf i).toNat)
  case atStart => exact ⟨0, [], by omega, rfl, World.ownsRow_nil _ _ _ _, ⟨rfl, fun i u l hu => by simp at hu⟩, H1.out.1, H1.out.2⟩
  case round =>
    obtain ⟨k, us, hk, rfl, hrow, hrb, hbr, hcl⟩ := hrel
    by_cases hlt : k < n
    · have hosr := HO.out.1.below' hbr hB
      obtain ⟨b, off, rfl, hb, _⟩ := hosr.sh.place (by omega)
      obtain ⟨s, hs⟩ := sv_get hosr.sh hlt
      obtain ⟨l, hpl1, hbs⟩ := hosr.get hs
      have hr := hosr.sh.range hs
      have hstep := allO_step (num := num) hpl1
      have hsn : l.length ≤ 1048576 := HO.out.2.1 _ (List.mem_of_getElem? hpl1)
      have hsl := hbs.len
      have hul : us.length ≤ n := by
        rw [hrb.1]
        unfold allO
        rw [List.length_map]
        exact Nat.le_trans (List.length_filter_le _ _) (by rw [List.length_take]; omega)
      have hltI : (k : Int) < n := by omega
      have HX : Aside _ := And.intro hrow (And.intro hrb (And.intro hbr (And.intro hcl (And.intro hbs (And.intro hstep (And.intro hsn hsl))))))
      have hbr2 := hbr.trans ((alloc_below wr (.cells #[.int .i64 s.k, .slice s.A s.n s.c] 99)).mono hbr.size)
      have hcall := of1_f w.heap.size num s.k s.A s.n s.c (wr.alloc (.cells #[.int .i64 s.k, .slice s.A s.n s.c] 99)) (by rw [alloc_size]; have := (cap_cell hcl.out).1; omega) ((World.cell?_alloc_lt wr _ ⟨w.heap.size, 0, none⟩ (cap_cell hcl.out).1).trans (cap_cell hcl.out).2)
      obtain ⟨q, hq⟩ : ∃ q, (s.k == num) = q := ⟨_, rfl⟩
      have HQ := Lib.hid hq
      rw [hq] at hcall
      clear hrow hrb hbr hcl hbs hstep hsn hsl hq hosr hs hpl1 hbr2
      obtain ⟨sk, sA, sn, sc⟩ := s
      dsimp only at hr hcall HX HQ
      obtain ⟨m, hm⟩ : ∃ m, us.length = m := ⟨_, rfl⟩
      have HM := Lib.hid hm
      rw [hm] at hul
      clear hm
      cases q with
      | false =>
        go_wp2_with (first
          | (refine wpList_load_mid rfl 99 (.tmp 15) rfl b (off + k * 2) rfl [.int .i64 sk, .slice sA sn sc] _ hr Tryd.underlying99 rfl size_opt1 ?_)
          | (go_at_call 111; refine hcall.mono ?_; rintro e w2 ⟨rfl, b2⟩; have H2 : Aside _ := b2; clear b2))
        go_roundw
        case rel =>
          obtain ⟨hrow, hrb, hbr, hcl, hbs, hstep, hsn, hsl⟩ := HX.out
          have ha := (alloc_below wr (.cells #[.int .i64 sk, .slice sA sn sc] 99)).trans (H2.out.mono (alloc_below wr _).size)
          refine ⟨k + 1, us, by omega, by go_num, row_below hrow ha, ?_, hbr.trans (ha.mono hbr.size), (show Aside _ from (ha.block _ (cap_cell hcl.out).1).trans hcl.out)⟩
          rw [hstep, if_neg (by show ¬ (sk == num) = true; rw [HQ.out]; decide), List.append_nil]
          exact hrb.below ha
        case measure => simp [intOf]; omega
      | true =>
        have hrow := HX.out.1
        rw [HM.out] at hrow
        have HW := Lib.hid hrow
        clear hrow
        have hszr := HX.out.2.2.1.size
        go_wp2_with (first
          | (refine wpList_load_mid rfl 99 (.tmp 15) rfl b (off + k * 2) rfl [.int .i64 sk, .slice sA sn sc] _ hr Tryd.underlying99 rfl size_opt1 ?_)
          | (go_at_call 111; refine hcall.mono ?_; rintro e w2 ⟨rfl, b2⟩; have c21 : w2.cell? ⟨wr.heap.size, 1, none⟩ = some (.slice sA sn sc) := (b2.cell (p := ⟨wr.heap.size, 1, none⟩) (by rw [alloc_size]; show wr.heap.size < _; omega)).trans (by rw [cell_of_row _ _ _ _ _ _ (heap_alloc_new wr _)]; rfl); have ha : Below wr.heap.size wr w2 := (alloc_below wr (.cells #[.int .i64 sk, .slice sA sn sc] 99)).trans (b2.mono (alloc_below wr _).size); have hcl2 := bclone_f sA sn sc l w2 _ (HX.out.2.2.2.2.1.below' ha (Nat.le_trans hB hszr)) (by have := ha.size; omega) (by have := HX.out.2.2.2.2.2.2; omega); have H2 : Aside _ := ha; clear b2 ha)
          | (go_at_call 83; refine hcl2.mono ?_; rintro e w3 ⟨u3, rfl, ho3, b3⟩; obtain ⟨A3, c3, rfl, _, _⟩ := Bs.of_own ho3; have ha3 : Below wr.heap.size wr w3 := H2.out.trans (b3.mono H2.out.size); have hsz3 := ha3.size; have hs2 := H2.out.size; have HW3 := Lib.hid ((row_below HW.out ha3).alloc (.cells #[.slice A3 l.length c3] 24)); have H3 : Aside _ := And.intro (row_mono ho3 (Nat.le_trans hszr hs2)) ha3; clear ho3 b3 ha3)
          | (at_builtin; refine wpList_append_own _ rfl (.tmp 20) (.tmp 24) 102 rfl w.heap.size 24 i0 _ 1 24 Tryd.underlying102 hi0 hz0 hz1 hz2 rfl (by decide) _ m us rfl HW3.out ⟨w3.heap.size, 0, none⟩ 1 1 [.slice A3 l.length c3] rfl rfl (fun j y hj => by rw [Addr.add_lit, Nat.zero_add, cell_of_row _ _ _ _ _ _ (heap_alloc_new w3 _)]; simpa using hj) (fun y hy => by obtain rfl := List.mem_singleton.1 hy; rfl) (by simp only [maxLen]; omega) (by omega) (by rw [alloc_size]; omega) ?_; intro v4 w4 ho4 hg4 _; have H4 : Aside _ := And.intro ho4 hg4; clear ho4 hg4))
        go_roundw
        case rel =>
          obtain ⟨hrow, hrb, hbr, hcl, hbs, hstep, hsn, hsl⟩ := HX.out
          obtain ⟨ho3, ha3⟩ := H3.out
          obtain ⟨ho4, hg4⟩ := H4.out
          have hal := alloc_below w3 (.cells #[.slice A3 l.length c3] 24)
          have ha4 : Below wr.heap.size wr (w3.alloc (.cells #[.slice A3 l.length c3] 24)) := ha3.trans (hal.mono ha3.size)
          have hb4 : Below w.heap.size w w4 := (hbr.trans (ha4.mono hbr.size)).grown hg4 (by have := ha4.size; omega) (own_ge hrow)
          have hca := (ha4.block _ (cap_cell hcl.out).1).trans hcl.out
          have hne := cap_ne hca HW3.out (by decide)
          refine ⟨k + 1, us ++ [.slice A3 l.length c3], by omega, by go_num, ?_, ?_, hb4, (show Aside _ from ?_)⟩
          · rw [List.length_append, HM.out]; exact ho4
          · rw [hstep, if_pos HQ.out]
            exact ((hrb.below ha4).push (row_below ho3 hal)).grown HW3.out hg4
          · exact (hg4.block _ (cap_cell hca).1 hne).trans hca
        case measure => simp [intOf]; omega
    · obtain rfl : k = n := by omega
      rw [List.take_of_length_le (by have := HO.out.2.2; omega)] at hrb
      have HX : Aside _ := And.intro hrow (And.intro hrb hbr)
      clear hrow hrb hbr hcl
      go_wp2
      go_ret
      obtain ⟨hrow, hrb, hbr⟩ := HX.out
      obtain ⟨A', c', rfl, hc', hp⟩ := hrb.pc hrow
      exact ⟨A', _, c', us, rfl, hc', hrb.1, hp, hbr, rfl, hrow, hrb⟩
theorem all_f (num : Int) (A : Option Addr) (n c : Nat) (vs : List Sv) (ps : List (Int × List UInt8)) (w : World) (B : Nat) (hos : Os w B A n vs ps) (hB : B ≤ w.heap.size) (hn : n ≤ 1048576) (hmx : ∀ x ∈ ps, x.2.length ≤ 1048576) :
    Calls Tryd.prog 57 #[.slice A n c, .int .i64 num] w (RetPc (allO num ps) w) := (all_r num A n c vs ps w B hos hB hn hmx).mono fun e w' ⟨A', m, c', us, h1, h2, h3, h4, h5, _⟩ => ⟨A', m, c', h1, h2, h3, h4, h5⟩
end Go.Proofs.YtbclgalocipmfaaDoor
