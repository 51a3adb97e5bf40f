/-
  Options looked up, left out, added.
-/
import Derived.Test.YtfbddldcbjhmiaaOptNum
import Derived.Test.YtfbddldcbjhmiaaJArgs
namespace Go.Proofs.Ytfbddldcbjhmiaa
open Go.RowKit
set_option maxRecDepth 100000
set_option linter.unusedVariables false
/-- Options returned. -/
def RetOs (ps : List (Int × List UInt8)) (w : World) (e : Ending) (w' : World) : Prop :=
  ∃ A n c us, e = .returned (.slice A n c) ∧ (n ≤ c ∧ c ≤ maxLen) ∧ Hid (n = ps.length) ∧ Os w' w'.heap.size A n us ps ∧ Below w.heap.size w w'
theorem RetOpts.ret {ps : List (Int × List UInt8)} {w w' : World} {e : Ending} (h : RetOpts ps w e w') : RetOs ps w e w' := h.slice_
theorem RetOs.trans {ps : List (Int × List UInt8)} {w w1 w' : World} {e : Ending} (h : RetOs ps w1 e w') (hb : Below w.heap.size w w1) : RetOs ps w e w' := by
  obtain ⟨A, n, c, us, h1, h2, h3, h4, h5⟩ := h
  exact ⟨A, n, c, us, h1, h2, h3, h4, hb.trans (h5.mono hb.size)⟩
theorem Os.mx {w : World} {B n : Nat} {A : Option Addr} {vs : List Sv} {ps : List (Int × List UInt8)} (h : Os w B A n vs ps) {m : Nat} (hm : ∀ x ∈ ps, x.2.length ≤ m) : ∀ s ∈ vs, s.n ≤ m := by
  intro s hs
  obtain ⟨i, hi⟩ := List.mem_iff_getElem?.1 hs
  obtain ⟨l, hl, hb⟩ := h.get hi
  have := hm _ (List.mem_of_getElem? hl)
  have e := hb.len
  simp only at this
  omega
/-- With one more, ahead of the first of a greater number. -/
def addO (num : Int) (l : List UInt8) : List (Int × List UInt8) → List (Int × List UInt8)
  | [] => [(num, l)]
  | x :: r => if num < x.1 then (num, l) :: x :: r else x :: addO num l r
theorem addO_at (num : Int) (l : List UInt8) : ∀ (ps : List (Int × List UInt8)) (k : Nat), k ≤ ps.length → (∀ (j : Nat) (x : Int × List UInt8), j < k → ps[j]? = some x → ¬ num < x.1) → (∀ x, ps[k]? = some x → num < x.1) → addO num l ps = ps.take k ++ [(num, l)] ++ ps.drop k
  | [], k, hk, _, _ => by
    have : k = 0 := by simpa using hk
    subst this; rfl
  | x :: r, 0, _, _, h2 => by
    rw [addO, if_pos (h2 x rfl)]; rfl
  | x :: r, k + 1, hk, h1, h2 => by
    rw [addO, if_neg (h1 0 x (by omega) rfl), addO_at num l r k (by simpa using hk) (fun j y hj hy => h1 (j + 1) y (by omega) hy) (fun y hy => h2 y hy)]
    rfl
theorem addO_len (num : Int) (l : List UInt8) (ps : List (Int × List UInt8)) : (addO num l ps).length = ps.length + 1 := by
  induction ps with
  | nil => rfl
  | cons x r ih =>
    rw [addO]
    split
    · rfl
    · rw [List.length_cons, ih]; rfl
theorem addO_mem (num : Int) (l : List UInt8) (ps : List (Int × List UInt8)) : ∀ x ∈ addO num l ps, x = (num, l) ∨ x ∈ ps := by
  induction ps with
  | nil => intro x hx; left; simpa [addO] using hx
  | cons y r ih =>
    intro x hx
    rw [addO] at hx
    split at hx
    · rcases List.mem_cons.1 hx with h | h
      · exact .inl h
      · exact .inr h
    · rcases List.mem_cons.1 hx with h | h
      · exact .inr (h ▸ List.mem_cons_self)
      · rcases ih x h with h | h
        · exact .inl h
        · exact .inr (List.mem_cons_of_mem _ h)
set_option maxHeartbeats 4000000 in
theorem add_f (num : Int) (A2 : Option Addr) (n2 c2 : Nat) (l2 : List UInt8) (A : Option Addr) (n c : Nat) (vs : List Sv) (ps : List (Int × List UInt8)) (w : World) (B : Nat) (hos : Os w B A n vs ps) (hB : B ≤ w.heap.size) (hc : n ≤ c) (hcm : c ≤ maxLen) (hn : n ≤ 1048000) (hmx : ∀ x ∈ ps, x.2.length ≤ 1048576)
    (hb2 : Bs w B A2 n2 l2) (hc2 : n2 ≤ c2) (hm2 : c2 ≤ maxLen) (hn2 : n2 ≤ 1048576) :
    Calls Try.prog 9 #[.slice A n c, .int .i64 num, .slice A2 n2 c2] w (RetOs (addO num l2 ps) w) := by
  have hcI : (c : Int) ≤ 9223372036854775807 := by simp only [maxLen] at hcm; omega
  have hncI : (n : Int) ≤ c := by omega
  have hnI : (n : Int) ≤ 1048000 := by omega
  have hidx := index_f 36 #[.pointer (some ⟨w.heap.size, 0, none⟩)] (fun s => decide (num < s.k)) fn_add A n c vs (w.alloc (.cells #[.int .i64 num] 3)) B (hos.sh.below' (alloc_below w _) hB) (by rw [alloc_size]; omega) (by omega) (pred_add w.heap.size num _ (by rw [alloc_size]; omega) (by rw [cell_of_row _ _ _ _ _ _ (heap_alloc_new w _)]; rfl))
  obtain ⟨k, hk, hadd, hix⟩ : ∃ k : Nat, k ≤ n ∧ addO num l2 ps = ps.take k ++ [(num, l2)] ++ ps.drop k ∧ (idxP (fun s => decide (num < s.k)) vs = k ∨ (idxP (fun s => decide (num < s.k)) vs = -1 ∧ k = n)) := by
    have hpl := hos.plen
    have hget : ∀ (j : Nat) (x : Int × List UInt8), ps[j]? = some x → ∃ s, vs[j]? = some s ∧ s.k = x.1 := fun j x hx => by
      obtain ⟨s, hs⟩ := sv_get hos.sh (k := j) (by have := (List.getElem?_eq_some_iff.1 hx).1; omega)
      obtain ⟨l, hl, _⟩ := hos.get hs
      rw [hx] at hl
      obtain rfl := Option.some.inj hl
      exact ⟨s, hs, rfl⟩
    rcases idxP_cases (fun s => decide (num < s.k)) vs with ⟨h1, h2⟩ | ⟨k, s, h1, h2, h3, h4⟩
    · refine ⟨n, Nat.le_refl _, addO_at num l2 ps n (by omega) (fun j x hj hx => ?_) (fun x hx => ?_), .inr ⟨h1, rfl⟩⟩
      · obtain ⟨s, hs, e⟩ := hget j x hx
        have := h2 s (List.mem_of_getElem? hs)
        rw [← e]; simpa using this
      · rw [List.getElem?_eq_none (by omega)] at hx; cases hx
    · have hkn : k < n := by have := (List.getElem?_eq_some_iff.1 h2).1; have := hos.sh.len; omega
      refine ⟨k, by omega, addO_at num l2 ps k (by omega) (fun j x hj hx => ?_) (fun x hx => ?_), .inl h1⟩
      · obtain ⟨s, hs, e⟩ := hget j x hx
        have := h4 j s hj hs
        rw [← e]; simpa using this
      · obtain ⟨s', hs', e⟩ := hget k x hx
        rw [h2] at hs'
        obtain rfl := Option.some.inj hs'
        rw [← e]; simpa using h3
  rw [hadd]
  have HO : Aside _ := And.intro hos (And.intro hmx (And.intro hb2 (And.intro hm2 hcm)))
  clear hos hmx hb2 hadd hm2 hcm
  have hkI : (k : Int) ≤ n := by omega
  have hk0 : (0 : Int) ≤ k := by omega
  have hkc : (k : Int) ≤ c := by omega
  rcases hix with h1 | ⟨h1, hkn⟩
  · rw [h1] at hidx
    clear h1
    go_enter Try.func9, Try.ntmps9
    go_wp2_with (go_at_call 35; refine hidx.mono ?_; rintro e w1 ⟨rfl, b1⟩; have hc1 : w1.cell? ⟨w.heap.size, 0, none⟩ = some (.int .i64 num) := (b1.cell (p := ⟨w.heap.size, 0, none⟩) (by rw [alloc_size]; show w.heap.size < _; omega)).trans (by rw [cell_of_row _ _ _ _ _ _ (heap_alloc_new w _)]; rfl); have H1 : Aside _ := b1; clear b1)
    go_still_tail 7, (by kernel_rfl)
    obtain ⟨A26, hA26⟩ : ∃ A', (if c = k then A else Option.map (fun x => x.add (k * 2)) A) = A' := ⟨_, rfl⟩
    rw [hA26]
    have HA := Lib.hid hA26
    clear hA26
    refine gen_world (F := fun W => wpList Try.prog _ _ _ _ W) (fun W => Below w1.heap.size w1 W ∧ Sh W (w1.heap.size + 1) (some ⟨w1.heap.size, 0, none⟩) 1 [⟨num, A2, n2, c2⟩] ∧ w1.heap.size < W.heap.size) ⟨(alloc_below w1 (.cells #[.int .i64 num, .slice A2 n2 c2] 36)).drew, (Sh.lit0 w1 36 ⟨num, A2, n2, c2⟩ (0, 0)).keep (fun _ _ => rfl), (by show _ < (w1.alloc (.cells #[.int .i64 num, .slice A2 n2 c2] 36)).heap.size; rw [alloc_size]; omega)⟩ ?_
    rintro w2 ⟨b2, hs2, hl2⟩
    have bw1 : Below w.heap.size w w1 := (alloc_below w _).trans (H1.out.mono (alloc_below w _).size)
    have b2w : Below w.heap.size w w2 := bw1.trans (b2.mono bw1.size)
    have hos2 := HO.out.1.below' b2w hB
    have hsh := hos2.sh
    have hshl := hsh.len
    obtain ⟨L, hL⟩ : ∃ L : List Sq, L = [⟨A, k, c, vs.take k⟩, ⟨some ⟨w1.heap.size, 0, none⟩, 1, 1, [⟨num, A2, n2, c2⟩]⟩, ⟨A26, n - k, c - k, vs.drop k⟩] := ⟨_, rfl⟩
    have hcatL : cat L = vs.take k ++ [⟨num, A2, n2, c2⟩] ++ vs.drop k := by rw [hL]; simp [cat]
    have hcl : (cat L).length = n + 1 := by rw [hcatL]; simp only [List.length_append, List.length_take, List.length_drop, List.length_cons, List.length_nil]; omega
    have hSs : Ss (w2.alloc (.cells #[.slice A k c, .slice (some ⟨w1.heap.size, 0, none⟩) 1 1, .slice A26 (n - k) (c - k)] 33)) (w2.heap.size + 1) (some ⟨w2.heap.size, 0, none⟩) 3 L := by
      have hB2 : B ≤ w2.heap.size := Nat.le_trans hB b2w.size
      have s1 : Sh w2 B A k (vs.take k) := by
        have := hsh.cut (lo := 0) (hi := k) (c := c) (A' := A) (Nat.zero_le _) hk hc (by split <;> simp_all [Addr.add])
        simpa using this
      have s3 : Sh w2 B A26 (n - k) (vs.drop k) := by
        have := hsh.cut (lo := k) (hi := n) (c := c) (A' := A26) hk (Nat.le_refl _) hc (by rw [← HA.out])
        rw [List.take_of_length_le (by omega)] at this
        exact this
      refine ⟨by rw [hL]; rfl, fun _ => ⟨w2.heap.size, 0, rfl, by omega, fun i q hq => ?_⟩⟩
      rw [hL] at hq
      match i, hq with
      | 0, hq => obtain rfl := Option.some.inj hq; exact ⟨by rw [cell_of_row _ _ _ _ _ _ (heap_alloc_new w2 _)]; rfl, (s1.below' (alloc_below w2 _) hB2).more (by omega)⟩
      | 1, hq => obtain rfl := Option.some.inj hq; exact ⟨by rw [cell_of_row _ _ _ _ _ _ (heap_alloc_new w2 _)]; rfl, (hs2.below' (alloc_below w2 _) (by omega)).more (by omega)⟩
      | 2, hq => obtain rfl := Option.some.inj hq; exact ⟨by rw [cell_of_row _ _ _ _ _ _ (heap_alloc_new w2 _)]; rfl, (s3.below' (alloc_below w2 _) hB2).more (by omega)⟩
      | i + 3, hq => simp at hq
    have hcon := concat_f _ 3 3 L _ _ hSs (by rw [alloc_size]; omega) (by omega) (by omega)
    have H2 : Aside _ := And.intro b2w (And.intro hcatL hcl)
    clear hSs hos2 hsh hcatL hcl bw1 b2w hs2 b2 hL hc1 hshl
    go_wp2_with fail
    refine hcon.mono ?_
    rintro e w4 ⟨v4, rfl, ho4, b4⟩
    obtain ⟨A4, c4, rfl, hc4, hs4⟩ := Sh.of_own ho4
    have ho5 : Os w4 w4.heap.size A4 (cat L).length (cat L) (ps.take k ++ [(num, l2)] ++ ps.drop k) := by
      obtain ⟨b2w, hcatL, hcl⟩ := H2.out
      have b4w : Below w.heap.size w w4 := b2w.trans (((alloc_below w2 _).trans (b4.mono (alloc_below w2 _).size)).mono b2w.size)
      have hB4 : B ≤ w4.heap.size := Nat.le_trans hB b4w.size
      have hos4 := HO.out.1.below' b4w hB
      have hsv := SvAt.mk_ (s := ⟨num, A2, n2, c2⟩) ((HO.out.2.2.1.below' b4w hB).more hB4) hc2 HO.out.2.2.2.1
      refine ⟨hs4, fun s hs => ?_, ?_⟩
      · rw [hcatL] at hs
        rcases List.mem_append.1 hs with h | h
        · rcases List.mem_append.1 h with h | h
          · exact (hos4.dp.more hB4) s (List.mem_of_mem_take h)
          · obtain rfl := List.mem_singleton.1 h
            exact hsv.1
        · exact (hos4.dp.more hB4) s (List.mem_of_mem_drop h)
      · rw [hcatL, List.map_append, List.map_append, List.map_take, List.map_drop, hos4.eq, List.map_cons, List.map_nil, hsv.2]
    have hcp := copies_f A4 _ c4 _ _ w4 _ ho5 (Nat.le_refl _) (by rw [H2.out.2.2]; omega) (ho5.mx (fun x hx => by
      rcases List.mem_append.1 hx with h | h
      · rcases List.mem_append.1 h with h | h
        · exact HO.out.2.1 x (List.mem_of_mem_take h)
        · obtain rfl := List.mem_singleton.1 h
          have := HO.out.2.2.1.len
          show l2.length ≤ _
          omega
      · exact HO.out.2.1 x (List.mem_of_mem_drop h)))
    have H4 : Aside (Below w.heap.size w w4) := H2.out.1.trans (((alloc_below w2 _).trans (b4.mono (alloc_below w2 _).size)).mono H2.out.1.size)
    clear hcon ho4 hs4 b4 ho5
    generalize (cat L).length = n4 at *
    go_wp2_with (go_at_call 37; refine hcp.mono ?_; intro e w5 h5; have h5' := h5.ret; have H5 : Aside _ := h5'; obtain ⟨A5, n5, c5, us5, rfl, _⟩ := h5'; clear h5)
    go_ret
    exact RetOs.trans H5.out H4.out
  · rw [h1] at hidx
    clear h1
    have HK := Lib.hid hkn
    clear hkn hkI hk0 hkc
    go_enter Try.func9, Try.ntmps9
    go_wp2_with (go_at_call 35; refine hidx.mono ?_; rintro e w1 ⟨rfl, b1⟩; have hc1 : w1.cell? ⟨w.heap.size, 0, none⟩ = some (.int .i64 num) := (b1.cell (p := ⟨w.heap.size, 0, none⟩) (by rw [alloc_size]; show w.heap.size < _; omega)).trans (by rw [cell_of_row _ _ _ _ _ _ (heap_alloc_new w _)]; rfl); have H1 : Aside _ := b1; clear b1)
    have hkn := HK.out
    go_still_tail 7, (by kernel_rfl)
    obtain ⟨A26, hA26⟩ : ∃ A', (if c = n then A else Option.map (fun x => x.add (n * 2)) A) = A' := ⟨_, rfl⟩
    rw [hA26]
    have HA := Lib.hid hA26
    clear hA26
    refine gen_world (F := fun W => wpList Try.prog _ _ _ _ W) (fun W => Below w1.heap.size w1 W ∧ Sh W (w1.heap.size + 1) (some ⟨w1.heap.size, 0, none⟩) 1 [⟨num, A2, n2, c2⟩] ∧ w1.heap.size < W.heap.size) ⟨(alloc_below w1 (.cells #[.int .i64 num, .slice A2 n2 c2] 36)).drew, (Sh.lit0 w1 36 ⟨num, A2, n2, c2⟩ (0, 0)).keep (fun _ _ => rfl), (by show _ < (w1.alloc (.cells #[.int .i64 num, .slice A2 n2 c2] 36)).heap.size; rw [alloc_size]; omega)⟩ ?_
    rintro w2 ⟨b2, hs2, hl2⟩
    have bw1 : Below w.heap.size w w1 := (alloc_below w _).trans (H1.out.mono (alloc_below w _).size)
    have b2w : Below w.heap.size w w2 := bw1.trans (b2.mono bw1.size)
    have hos2 := HO.out.1.below' b2w hB
    have hsh := hos2.sh
    have hshl := hsh.len
    obtain ⟨L, hL⟩ : ∃ L : List Sq, L = [⟨A, n, c, vs.take k⟩, ⟨some ⟨w1.heap.size, 0, none⟩, 1, 1, [⟨num, A2, n2, c2⟩]⟩, ⟨A26, 0, c - n, vs.drop k⟩] := ⟨_, rfl⟩
    have hcatL : cat L = vs.take k ++ [⟨num, A2, n2, c2⟩] ++ vs.drop k := by rw [hL]; simp [cat]
    have hcl : (cat L).length = n + 1 := by rw [hcatL]; simp only [List.length_append, List.length_take, List.length_drop, List.length_cons, List.length_nil]; omega
    have hSs : Ss (w2.alloc (.cells #[.slice A n c, .slice (some ⟨w1.heap.size, 0, none⟩) 1 1, .slice A26 (0) (c - n)] 33)) (w2.heap.size + 1) (some ⟨w2.heap.size, 0, none⟩) 3 L := by
      have hB2 : B ≤ w2.heap.size := Nat.le_trans hB b2w.size
      have s1 : Sh w2 B A n (vs.take k) := by
        have := hsh.cut (lo := 0) (hi := k) (c := c) (A' := A) (Nat.zero_le _) hk hc (by split <;> simp_all [Addr.add])
        subst hkn; simpa using this
      have s3 : Sh w2 B A26 (0) (vs.drop k) := by
        have := hsh.cut (lo := k) (hi := n) (c := c) (A' := A26) hk (Nat.le_refl _) hc (by rw [← HA.out]; subst hkn; rfl)
        rw [List.take_of_length_le (by omega)] at this
        subst hkn; simpa using this
      refine ⟨by rw [hL]; rfl, fun _ => ⟨w2.heap.size, 0, rfl, by omega, fun i q hq => ?_⟩⟩
      rw [hL] at hq
      match i, hq with
      | 0, hq => obtain rfl := Option.some.inj hq; exact ⟨by rw [cell_of_row _ _ _ _ _ _ (heap_alloc_new w2 _)]; rfl, (s1.below' (alloc_below w2 _) hB2).more (by omega)⟩
      | 1, hq => obtain rfl := Option.some.inj hq; exact ⟨by rw [cell_of_row _ _ _ _ _ _ (heap_alloc_new w2 _)]; rfl, (hs2.below' (alloc_below w2 _) (by omega)).more (by omega)⟩
      | 2, hq => obtain rfl := Option.some.inj hq; exact ⟨by rw [cell_of_row _ _ _ _ _ _ (heap_alloc_new w2 _)]; rfl, (s3.below' (alloc_below w2 _) hB2).more (by omega)⟩
      | i + 3, hq => simp at hq
    have hcon := concat_f _ 3 3 L _ _ hSs (by rw [alloc_size]; omega) (by omega) (by omega)
    have H2 : Aside _ := And.intro b2w (And.intro hcatL hcl)
    clear hSs hos2 hsh hcatL hcl bw1 b2w hs2 b2 hL hc1 hshl
    go_wp2_with fail
    refine hcon.mono ?_
    rintro e w4 ⟨v4, rfl, ho4, b4⟩
    obtain ⟨A4, c4, rfl, hc4, hs4⟩ := Sh.of_own ho4
    have ho5 : Os w4 w4.heap.size A4 (cat L).length (cat L) (ps.take k ++ [(num, l2)] ++ ps.drop k) := by
      obtain ⟨b2w, hcatL, hcl⟩ := H2.out
      have b4w : Below w.heap.size w w4 := b2w.trans (((alloc_below w2 _).trans (b4.mono (alloc_below w2 _).size)).mono b2w.size)
      have hB4 : B ≤ w4.heap.size := Nat.le_trans hB b4w.size
      have hos4 := HO.out.1.below' b4w hB
      have hsv := SvAt.mk_ (s := ⟨num, A2, n2, c2⟩) ((HO.out.2.2.1.below' b4w hB).more hB4) hc2 HO.out.2.2.2.1
      refine ⟨hs4, fun s hs => ?_, ?_⟩
      · rw [hcatL] at hs
        rcases List.mem_append.1 hs with h | h
        · rcases List.mem_append.1 h with h | h
          · exact (hos4.dp.more hB4) s (List.mem_of_mem_take h)
          · obtain rfl := List.mem_singleton.1 h
            exact hsv.1
        · exact (hos4.dp.more hB4) s (List.mem_of_mem_drop h)
      · rw [hcatL, List.map_append, List.map_append, List.map_take, List.map_drop, hos4.eq, List.map_cons, List.map_nil, hsv.2]
    have hcp := copies_f A4 _ c4 _ _ w4 _ ho5 (Nat.le_refl _) (by rw [H2.out.2.2]; omega) (ho5.mx (fun x hx => by
      rcases List.mem_append.1 hx with h | h
      · rcases List.mem_append.1 h with h | h
        · exact HO.out.2.1 x (List.mem_of_mem_take h)
        · obtain rfl := List.mem_singleton.1 h
          have := HO.out.2.2.1.len
          show l2.length ≤ _
          omega
      · exact HO.out.2.1 x (List.mem_of_mem_drop h)))
    have H4 : Aside (Below w.heap.size w w4) := H2.out.1.trans (((alloc_below w2 _).trans (b4.mono (alloc_below w2 _).size)).mono H2.out.1.size)
    clear hcon ho4 hs4 b4 ho5
    generalize (cat L).length = n4 at *
    go_wp2_with (go_at_call 37; refine hcp.mono ?_; intro e w5 h5; have h5' := h5.ret; have H5 : Aside _ := h5'; obtain ⟨A5, n5, c5, us5, rfl, _⟩ := h5'; clear h5)
    go_ret
    exact RetOs.trans H5.out H4.out
end Go.Proofs.Ytfbddldcbjhmiaa
