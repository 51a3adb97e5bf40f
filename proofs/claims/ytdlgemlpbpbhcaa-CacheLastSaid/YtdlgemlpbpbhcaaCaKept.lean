/-
  An answer is kept: the call.
-/
import Derived.Test.YtdlgemlpbpbhcaaCaKeep
import Derived.Deep.Cut
namespace Go.Proofs.Ytdlgemlpbpbhcaa
open Go.RowKit
set_option linter.unusedVariables false
/-- The row, at its address. -/
def OwnA (cb : Nat) (X : List An) (W : World) (x : Value) : Prop := W.ownsRow (cb + 1) 48 4 x X.length (ans X)
theorem own_blk {w : World} {base size n : Nat} {e : TypeId} {v : Value} {xs : List Value} (h : w.ownsRow base e size v n xs) {k : Nat} (hk : k < base) : v.ownBlock ≠ some k := fun e => by have := (h.lt k e).1; omega
theorem own_none (v : Value) : v.ownBlock = none ∨ v.ownBlock ≠ none := by cases h : v.ownBlock <;> simp
theorem OwnA.keep {cb : Nat} {X : List An} {w w' : World} {x : Value} (hf : Fr cb none w w') (h : OwnA cb X w x) : OwnA cb X w' x := hf.row_ h (own_blk h (by omega)) (own_none x)
theorem OwnA.slice_ {cb : Nat} {X : List An} {w : World} {x : Value} (h : OwnA cb X w x) : ∃ A n c, x = .slice A n c := by
  obtain ⟨A, c, e, _⟩ := Ah.of_own h
  exact ⟨A, _, c, e⟩
def K2R (cb : Nat) (v0 : Value) (fr id : Int) (w2 : World) (g : Option Value) (i : Nat) (w : World) (x : Value) : Prop :=
  match i with
  | 0 | 1 | 2 | 3 | 9 | 10 => x = .pointer (some ⟨cb, 0, none⟩)
  | 4 => x = v0
  | 5 => x = .int .i64 fr
  | 6 => x = .int .i64 id
  | 7 => ∃ b0, x = .func (.func 28) #[] #[.pointer (some ⟨b0, 0, none⟩), .pointer (some ⟨b0 + 1, 0, none⟩)] ∧ w2.heap.size ≤ b0 ∧ b0 + 2 ≤ w.heap.size ∧ w.cell? ⟨b0, 0, none⟩ = some (.int .i64 fr) ∧ w.cell? ⟨b0 + 1, 0, none⟩ = some (.int .i64 id)
  | 8 => g = some x
  | _ => True
theorem Fr.cell {cb : Nat} {row : Option Nat} {w w' : World} (h : Fr cb row w w') {b : Nat} (hb : b < w.heap.size) (h1 : b ≠ cb) (h2 : some b ≠ row) (j : Nat) : w'.cell? ⟨b, j, none⟩ = w.cell? ⟨b, j, none⟩ := World.cell?_of_block (h.block b hb h1 h2)
theorem K2R.grow {cb : Nat} {v0 : Value} {fr id : Int} {w2 : World} {g g' : Option Value} {i : Nat} {w w' : World} {x : Value} (hcb : cb < w2.heap.size) (hrow : ∀ k, v0.ownBlock = some k → k < w2.heap.size) (hT : GT cb v0.ownBlock g w g' w') (h : K2R cb v0 fr id w2 g i w x) : K2R cb v0 fr id w2 g' i w' x := by
  unfold K2R at h ⊢
  split at h
  all_goals first
    | exact h
    | exact (hT.2 x h).1
    | (obtain ⟨b0, h1, h2, h3, h4, h5⟩ := h
       exact ⟨b0, h1, h2, Nat.le_trans h3 hT.1.size, (hT.1.cell (by omega) (by omega) (fun e => by have := hrow b0 e.symm; omega) 0).trans h4, (hT.1.cell (by omega) (by omega) (fun e => by have := hrow (b0 + 1) e.symm; omega) 0).trans h5⟩)

theorem All2.imp {R R' : An → Qa → Prop} (h : ∀ s q, R s q → R' s q) : ∀ {vs : List An} {qs : List Qa}, All2 R vs qs → All2 R' vs qs
  | [], [], _ => trivial
  | [], _ :: _, h2 => h2.elim
  | _ :: _, [], h2 => h2.elim
  | _ :: _, _ :: _, h2 => ⟨h _ _ h2.1, h2.2.imp h⟩
theorem own_ne {w : World} {base size n k : Nat} {e t : TypeId} {v : Value} {xs : List Value} {cs : Array Value} {fr : Nat × Nat} (h : w.ownsRow base e size v n xs) (hk : w.heap[k]? = some (.cells cs t fr)) (ht : t ≠ e) : v.ownBlock ≠ some k := by
  intro e1
  rcases h.2 with ⟨rfl, _⟩ | ⟨g, cap, cur, rfl, _, hg, _⟩
  · simp [Value.ownBlock] at e1
  · simp only [Value.ownBlock, Option.some.injEq] at e1
    subst e1
    rw [hg] at hk
    injection hk with hk
    injection hk with _ hk _
    exact ht hk.symm
/-- .. with one more, whose bytes are the call's own. -/
def KeptA (cb B : Nat) (D : List An) (k : Nat) (q : Qa) (W : World) (x : Value) : Prop := ∃ s, W.ownsRow (cb + 1) 48 4 x (D.length + 1) (ans (D.take k ++ s :: D.drop k)) ∧ cb < B ∧ Ka W B s q
theorem KeptA.keep {cb B : Nat} {D : List An} {k : Nat} {q : Qa} {w w' : World} {x : Value} (hf : Fr cb none w w') (h : KeptA cb B D k q w x) : KeptA cb B D k q w' x := by
  obtain ⟨s, h1, h0, h2⟩ := h
  exact ⟨s, hf.row_ h1 (own_blk h1 (by omega)) (own_none x), h0, h2.f, h2.i, h2.t, hf.row_ h2.b (own_blk h2.b (by omega)) (own_none _), h2.max⟩
theorem KeptA.slice_ {cb B : Nat} {D : List An} {k : Nat} {q : Qa} {w : World} {x : Value} (h : KeptA cb B D k q w x) : ∃ A n c, x = .slice A n c := by
  obtain ⟨s, h1, _⟩ := h
  obtain ⟨A, c, e, _⟩ := Ah.of_own h1
  exact ⟨A, _, c, e⟩
def K6R (cb : Nat) (v1 : Value) (fr id T : Int) (k : Nat) (A : Option Addr) (n c : Nat) (l : List UInt8) (w4 : World) (g : Option Value) (i : Nat) (w : World) (x : Value) : Prop :=
  match i with
  | 0 | 1 | 2 | 3 | 14 | 15 => x = .pointer (some ⟨cb, 0, none⟩)
  | 4 => x = v1
  | 5 => x = .int .i64 (k : Int)
  | 6 => x = .int .i64 fr
  | 7 => x = .int .i64 id
  | 8 => x = .int .i64 T
  | 9 => x = .slice A n c
  | 10 => ∃ A' c', x = .slice A' l.length c' ∧ w.ownsRow w4.heap.size 5 1 (.slice A' l.length c') l.length (U8 l)
  | 11 => ∃ A' c', x = .agg #[.int .i64 fr, .int .i64 id, .int .i64 T, .slice A' l.length c'] ∧ w.ownsRow w4.heap.size 5 1 (.slice A' l.length c') l.length (U8 l)
  | 12 => ∃ vb A' c', x = .slice (some ⟨vb, 0, none⟩) 1 1 ∧ (w4.heap.size ≤ vb ∧ vb < w.heap.size) ∧ w.heap[vb]? = some (.cells #[.int .i64 fr, .int .i64 id, .int .i64 T, .slice A' l.length c'] 48) ∧ w.ownsRow w4.heap.size 5 1 (.slice A' l.length c') l.length (U8 l)
  | 13 => g = some x
  | _ => True
theorem K6R.grow {cb : Nat} {v1 : Value} {fr id T : Int} {k : Nat} {A : Option Addr} {n c : Nat} {l : List UInt8} {w4 : World} {g g' : Option Value} {i : Nat} {w w' : World} {x : Value} (hcb : cb < w4.heap.size) (hrow : ∀ k, v1.ownBlock = some k → k < w4.heap.size) (hT : GT cb v1.ownBlock g w g' w') (h : K6R cb v1 fr id T k A n c l w4 g i w x) : K6R cb v1 fr id T k A n c l w4 g' i w' x := by
  have hr : ∀ (v : Value) (m : Nat) (xs : List Value), w.ownsRow w4.heap.size 5 1 v m xs → w'.ownsRow w4.heap.size 5 1 v m xs := fun v m xs ho =>
    hT.1.row_ ho (own_blk ho (by omega)) (by
      cases hv : v.ownBlock with
      | none => exact .inl rfl
      | some j => exact .inr (fun e => by have := hrow j e.symm; have := (ho.lt j hv).1; omega))
  unfold K6R at h ⊢
  split at h
  all_goals first
    | exact h
    | exact (hT.2 x h).1
    | (obtain ⟨A', c', h1, h2⟩ := h
       exact ⟨A', c', h1, hr _ _ _ h2⟩)
    | (obtain ⟨vb, A', c', h1, h2, h3, h4⟩ := h
       exact ⟨vb, A', c', h1, ⟨h2.1, Nat.lt_of_lt_of_le h2.2 hT.1.size⟩, (hT.1.block vb h2.2 (by omega) (fun e => by have := hrow vb e.symm; omega)).trans h3, hr _ _ _ h4⟩)
theorem own_mono {w : World} {base base' size n : Nat} {e : TypeId} {v : Value} {xs : List Value} (h : w.ownsRow base e size v n xs) (hb : base' ≤ base) : w.ownsRow base' e size v n xs :=
  ⟨h.1, h.2.imp id fun ⟨g, cap, cur, h1, h2, h3⟩ => ⟨g, cap, cur, h1, by omega, h3⟩⟩
theorem own_row {w : World} {base size n : Nat} {e : TypeId} {v v1 : Value} {xs : List Value} (hrow : ∀ k, v1.ownBlock = some k → k < base) (h : w.ownsRow base e size v n xs) : v.ownBlock = none ∨ v.ownBlock ≠ v1.ownBlock := by
  cases hv : v.ownBlock with
  | none => exact .inl rfl
  | some j => exact .inr (fun e => by have := hrow j e.symm; have := (h.lt j hv).1; omega)
set_option maxHeartbeats 8000000 in
theorem cakeep2_f (cb : Nat) (v0 : Value) (vs : List An) (qs : List Qa) (w : World) (h : CaAt w cb v0 vs qs) (fr id now : Int) (A : Option Addr) (n c : Nat) (l : List UInt8) (hbs : ∀ W, KpT cb w W → Bs W W.heap.size A n l) (hn : (n : Int) ≤ 1099511627776) :
    Calls Try.prog 9 #[.pointer (some ⟨cb, 0, none⟩), .int .i64 fr, .int .i64 id, .int .i64 now, .slice A n c] w fun e w' => e = .returned (.tuple #[]) ∧ (∃ v' vs', CaAt w' cb v' vs' (keepQ qs fr id now l) ∧ ∀ x ∈ vs', x ∈ vs ∨ ∀ a, x.A = some a → w.heap.size ≤ a.block) ∧ KpT cb w w' := by
  have hcb := h.lt
  have hrow := h.row
  have hblk := h.blk
  have HH := Lib.hid (And.intro h hbs)
  clear h hbs
  go_enter Try.func9, Try.ntmps9
  go_upto_region 2 with (go_at_call 18; refine (clamp_f now _).mono ?_; rintro e w1 ⟨rfl, hw⟩; obtain rfl := hw.symm)
  refine wp_at_world (F := fun W => Below w.heap.size w W ∧ w.heap.size < W.heap.size ∧ W.heap[w.heap.size]? = some (.cells #[.int .i64 (clampN now)] 2)) ⟨alloc_below _ _, by rw [alloc_size]; omega, heap_alloc_new _ _⟩ fun w2 ⟨b2, s2, x2⟩ => ?_
  have HW := Lib.hid (And.intro ((b2.block cb hcb).trans hblk) (And.intro (row_below4 hrow b2) (And.intro (Nat.lt_of_lt_of_le hcb b2.size) (fun k (hk : v0.ownBlock = some k) => Nat.lt_of_lt_of_le (hrow.lt k hk).2 b2.size))))
  have H2 := Lib.hid (And.intro b2 (And.intro s2 x2))
  clear b2 s2 x2 hcb hrow hblk
  have hPk : ∀ w w' x, Fr cb none w w' → OwnA cb (vs.filter fun s => !(s.f == fr && s.i == id)) w x → OwnA cb (vs.filter fun s => !(s.f == fr && s.i == id)) w' x := fun _ _ _ => OwnA.keep
  refine wp_region_relG (GS w2 cb v0.ownBlock (OwnA cb (vs.filter fun s => !(s.f == fr && s.i == id))) 4 8 11) (GT cb v0.ownBlock) (K2R cb v0 fr id w2) [(0, .pointer (some ⟨cb, 0, none⟩)), (1, .int .i64 fr), (2, .int .i64 id)] (by kernel_rfl) (by kernel_rfl) (by kernel_rfl) ?base none (GS.first trivial w2 HW.out.2.2.1) (fun i g w g' w' x hT h => K2R.grow HW.out.2.2.1 HW.out.2.2.2 hT h) ?steps ?fin
  case base =>
    intro x hx
    simp only [List.mem_cons, List.not_mem_nil, or_false] at hx
    rcases hx with rfl | rfl | rfl <;> exact ⟨rfl, rfl⟩
  case steps =>
    refine steps_cons ?_ (steps_cons ?_ (steps_cons ?_ (steps_cons ?_ (steps_cons ?_ (steps_cons ?_ (steps_cons ?_ (steps_cons ?_ (steps_cons ?_ (steps_cons ?_ (steps_cons ?_ (steps_cons ?_ steps_nil)))))))))))
    · intro a wx L g K hLi hLd hS hB hR hK
      rw [if_pos (wanted_none rfl)]
      have h0 := tmp_is (hB.1)
      go_simp
      exact hK (.pointer (some ⟨cb, 0, none⟩)) wx g (hS.quiet 0 (by decide) (by decide)) (GT.refl _ _) rfl
    · intro a wx L g K hLi hLd hS hB hR hK
      rw [if_pos (wanted_none rfl)]
      have h0 := tmp_is (hB.1)
      go_simp
      exact hK (.pointer (some ⟨cb, 0, none⟩)) wx g (hS.quiet 1 (by decide) (by decide)) (GT.refl _ _) rfl
    · intro a wx L g K hLi hLd hS hB hR hK
      rw [if_pos (wanted_none rfl)]
      have h14 := tmp_is (hR.1)
      go_simp
      exact hK (.pointer (some ⟨cb, 0, none⟩)) wx g (hS.quiet 2 (by decide) (by decide)) (GT.refl _ _) rfl
    · intro a wx L g K hLi hLd hS hB hR hK
      rw [if_pos (wanted_none rfl)]
      have h15 := tmp_is (hR.1)
      go_simp
      exact hK (.pointer (some ⟨cb, 0, none⟩)) wx g (hS.quiet 3 (by decide) (by decide)) (GT.refl _ _) rfl
    · intro a wx L g K hLi hLd hS hB hR hK
      rw [if_pos (wanted_none rfl)]
      have h16 := tmp_is (hR.1)
      have hc := cell_of_row _ _ 0 _ _ _ (((hS.old hLi).block cb HW.out.2.2.1).trans HW.out.1)
      simp only [List.getElem?_toArray, List.getElem?_cons_zero] at hc
      go_simp
      exact hK (v0) wx g (hS.quiet 4 (by decide) (by decide)) (GT.refl _ _) rfl
    · intro a wx L g K hLi hLd hS hB hR hK
      rw [if_pos (wanted_none rfl)]
      have h1 := tmp_is (hB.2.1)
      go_simp
      exact hK (.int .i64 fr) wx g (hS.quiet 5 (by decide) (by decide)) (GT.refl _ _) rfl
    · intro a wx L g K hLi hLd hS hB hR hK
      rw [if_pos (wanted_none rfl)]
      have h2 := tmp_is (hB.2.2.1)
      go_simp
      exact hK (.int .i64 id) wx g (hS.quiet 6 (by decide) (by decide)) (GT.refl _ _) rfl
    · intro a wx L g K hLi hLd hS hB hR hK
      rw [if_pos (wanted_none rfl)]
      have h18 := tmp_is (hR.1)
      have h19 := tmp_is (hR.2.1)
      go_simp
      refine (to_f fr id wx).mono ?_
      rintro e w' ⟨rfl, hb, hs, h1, h2⟩
      exact hK _ _ g (hS.call hPk HW.out.2.2.1 7 (by decide : 8 ≠ 7) (by decide : 11 ≠ 7) hb) (GT.below hb) ⟨wx.heap.size, rfl, hS.fr.size, hs, h1, h2⟩
    · intro a wx L g K hLi hLd hS hB hR hK
      rw [if_pos (wanted_none rfl)]
      have h17 := tmp_is (hR.1)
      obtain ⟨b0, hv, hb0, hb1, c1, c2⟩ := hR.2.1
      have h20 := tmp_is hv
      go_simp
      have hbe := (hS.early hLi).2
      refine (cadel_f v0 vs.length vs wx (cb + 1) (row_below4 HW.out.2.1 hbe) 28 #[.pointer (some ⟨b0, 0, none⟩), .pointer (some ⟨b0 + 1, 0, none⟩)] (fun s => s.f == fr && s.i == id) fn_to (by have := HH.out.1.few; omega) HH.out.1.tok (fun W s hg _ => to1_f b0 (b0 + 1) fr id s W (Nat.lt_of_lt_of_le (by omega) hg.size) (Nat.lt_of_lt_of_le (by omega) hg.size) (hg.cell c1 (fun e => by have := HW.out.2.2.2 _ e.symm; simp only at this; omega)) (hg.cell c2 (fun e => by have := HW.out.2.2.2 _ e.symm; simp only at this; omega)))).mono ?_
      rintro e w' ⟨v', rfl, ho, hg⟩
      have hz := hS.row_ HW.out.2.2.1 (fun e => by have := (HW.out.2.1.lt cb e).1; omega) hLi (hLd 4 (by decide)) (by decide) hg ho
      exact hK v' w' (some v') hz.1 hz.2 rfl
    · intro a wx L g K hLi hLd hS hB hR hK
      rw [if_pos (wanted_none rfl)]
      have h13 := tmp_is (hR.1)
      go_simp
      exact hK (.pointer (some ⟨cb, 0, none⟩)) wx g (hS.quiet 9 (by decide) (by decide)) (GT.refl _ _) rfl
    · intro a wx L g K hLi hLd hS hB hR hK
      rw [if_pos (wanted_none rfl)]
      have h22 := tmp_is (hR.1)
      go_simp
      exact hK (.pointer (some ⟨cb, 0, none⟩)) wx g (hS.quiet 10 (by decide) (by decide)) (GT.refl _ _) rfl
    · intro a wx L g K hLi hLd hS hB hR hK
      rw [if_pos (wanted_none rfl)]
      have h23 := tmp_is (hR.1)
      have hgx : g = some (a.eval (.tmp 21)) := hR.2.1
      obtain ⟨x, hx⟩ : ∃ x, a.eval (.tmp 21) = x := ⟨_, rfl⟩
      rw [hx] at hgx
      have h21 := tmp_is hx
      have hst := hS.store hPk HW.out.1 (show L 11 = false from hLi) (hLd 8 (by decide)) (by decide : 8 ≠ 11) hgx
      have hc := cell_of_row _ _ 0 _ _ _ ((hS.cell0 hLi).trans HW.out.1)
      simp only [List.getElem?_toArray, List.getElem?_cons_zero] at hc
      have hf : wx.frozen? ⟨cb, 0, none⟩ = false := by simp [World.frozen?, (hS.cell0 hLi).trans HW.out.1]
      obtain ⟨A1, n1, c1, rfl⟩ := OwnA.slice_ (hS.made x hgx)
      go_simp
      exact hK undef _ g hst.1 hst.2 trivial
  case fin =>
    intro a w3 L g hS hall ha hR
    obtain ⟨v1, hgv, hc3⟩ := hS.cell1 (hall 11 (by decide))
    have ho3 := hS.made v1 hgv
    have hk3 := KpT.of_fr hS.fr HW.out.1 HW.out.2.1
    clear hR hS hgv hall
    simp only [pin] at ha
    rw [ha]
    simp only [List.setIfInBounds_toArray, List.set_cons_zero, List.set_cons_succ]
    clear ha
    obtain ⟨A1, c1, rfl, hc1, hah⟩ := Ah.of_own ho3
    have hcc : w3.cell? ⟨cb, 0, none⟩ = some (.slice A1 (vs.filter fun s => !(s.f == fr && s.i == id)).length c1) := by rw [cell_of_row _ _ _ _ _ _ hc3]; rfl
    have hbx : w3.heap[w.heap.size]? = some (.cells #[.int .i64 (clampN now)] 2) := (hk3.typ _ _ _ _ H2.out.2.2 (by decide) (by decide)).trans H2.out.2.2
    have hAll : All2 (Ka w (cb + 1)) vs qs := All2.of HH.out.1.len HH.out.1.each
    have hD : All2 (Ka w (cb + 1)) (vs.filter fun s => !(s.f == fr && s.i == id)) (qs.filter fun q => !(q.f == fr && q.i == id)) := hAll.filter (fun s q hk => by rw [hk.f, hk.i])
    have hix := hD.idx (p := fun s => decide (clampN now < s.t)) (p' := fun q => decide (clampN now < q.t)) (fun s q hk => by rw [hk.t])
    have htok : ∀ s ∈ (vs.filter fun s => !(s.f == fr && s.i == id)), 0 ≤ s.t ∧ s.t ≤ 1099511627776 := fun s hs => HH.out.1.tok s (List.mem_filter.1 hs).1
    have hDin : ∀ y ∈ (vs.filter fun s => !(s.f == fr && s.i == id)), y ∈ vs := fun y hy => (List.mem_filter.1 hy).1
    have hDl : (vs.filter fun s => !(s.f == fr && s.i == id)).length ≤ 8 := Nat.le_trans (List.length_filter_le _ _) HH.out.1.few
    have hkq : keepQ qs fr id now l = (if 8 < (((qs.filter fun q => !(q.f == fr && q.i == id)).take (((qs.filter fun q => !(q.f == fr && q.i == id)).findIdx? (fun q => decide (clampN now < q.t))).getD (qs.filter fun q => !(q.f == fr && q.i == id)).length)) ++ ⟨fr, id, clampN now, l⟩ :: ((qs.filter fun q => !(q.f == fr && q.i == id)).drop (((qs.filter fun q => !(q.f == fr && q.i == id)).findIdx? (fun q => decide (clampN now < q.t))).getD (qs.filter fun q => !(q.f == fr && q.i == id)).length))).length then (((qs.filter fun q => !(q.f == fr && q.i == id)).take (((qs.filter fun q => !(q.f == fr && q.i == id)).findIdx? (fun q => decide (clampN now < q.t))).getD (qs.filter fun q => !(q.f == fr && q.i == id)).length)) ++ ⟨fr, id, clampN now, l⟩ :: ((qs.filter fun q => !(q.f == fr && q.i == id)).drop (((qs.filter fun q => !(q.f == fr && q.i == id)).findIdx? (fun q => decide (clampN now < q.t))).getD (qs.filter fun q => !(q.f == fr && q.i == id)).length))).drop 1 else (((qs.filter fun q => !(q.f == fr && q.i == id)).take (((qs.filter fun q => !(q.f == fr && q.i == id)).findIdx? (fun q => decide (clampN now < q.t))).getD (qs.filter fun q => !(q.f == fr && q.i == id)).length)) ++ ⟨fr, id, clampN now, l⟩ :: ((qs.filter fun q => !(q.f == fr && q.i == id)).drop (((qs.filter fun q => !(q.f == fr && q.i == id)).findIdx? (fun q => decide (clampN now < q.t))).getD (qs.filter fun q => !(q.f == fr && q.i == id)).length)))) := rfl
    have hdl := hD.len
    rw [← hdl, ← hix] at hkq
    generalize (vs.filter fun s => !(s.f == fr && s.i == id)) = D at *
    generalize (qs.filter fun q => !(q.f == fr && q.i == id)) = dq at *
    obtain ⟨k, hk⟩ : ∃ k, (D.findIdx? fun s => decide (clampN now < s.t)).getD D.length = k := ⟨_, rfl⟩
    obtain ⟨q, hq⟩ : ∃ q, D.length = q := ⟨_, rfl⟩
    have hcase : (idxA (fun s => decide (clampN now < s.t)) D = -1 ∧ k = q) ∨ (idxA (fun s => decide (clampN now < s.t)) D = (k : Int) ∧ k < q) := by
      unfold idxA
      cases hf : D.findIdx? (fun s => decide (clampN now < s.t)) with
      | none => left; exact ⟨rfl, by rw [← hk, hf, ← hq]; rfl⟩
      | some j =>
        right
        rw [hf] at hk
        obtain rfl : j = k := hk
        exact ⟨rfl, by rw [← hq]; exact (List.findIdx?_eq_some_iff_getElem.1 hf).1⟩
    rw [hk] at hkq
    have hcall := indexA_f 22 #[.pointer (some ⟨w.heap.size, 0, none⟩)] (fun s => decide (clampN now < s.t)) fn_keep A1 D.length c1 D w3 _ hah (Nat.le_refl _) (by omega) (pred_keep w.heap.size (clampN now) w3 (Array.getElem?_eq_some_iff.1 hbx).1 (by rw [cell_of_row _ _ _ _ _ _ hbx]; rfl)) htok
    have HD := Lib.hid (And.intro hD (And.intro hkq (And.intro hk (And.intro hq (And.intro htok (And.intro hDl hDin))))))
    have H3 := Lib.hid (And.intro hc3 (And.intro ho3 (And.intro hk3 (And.intro hbx hAll))))
    rw [hq] at hcc hcall hc1 hDl
    have hkle : k ≤ q := by omega
    have HC := Lib.hid hcall
    clear hDin hD hkq hk htok hc3 ho3 hk3 hbx hAll hix hdl hah hcall
    go_upto_if 31 with (go_at_call 21; refine HC.out.mono ?_; rintro e w4 ⟨rfl, b4⟩; have hcc4 : w4.cell? ⟨cb, 0, none⟩ = some (.slice A1 q c1) := (b4.cell (p := ⟨cb, 0, none⟩) (Array.getElem?_eq_some_iff.1 H3.out.1).1).trans hcc; have H4 := Lib.hid b4; clear b4)
    go_cut [10] from 13 (fun s10 wz => s10 = .int .i64 (k : Int) ∧ wz = w4)
    case first =>
      rcases hcase with ⟨h1, h2⟩ | ⟨h1, h2⟩
      · rw [h1]
        subst h2
        go_wp2_with fail
        go_meet
        case rel => exact ⟨rfl, rfl⟩
      · rw [h1]
        have hkn : ¬ (k : Int) < 0 := by omega
        go_wp2_with fail
        go_meet
        case rel => exact ⟨rfl, rfl⟩
    case rest =>
      obtain ⟨rfl, rfl⟩ := hcut
      clear hcase HC
      have hc4 : wc.heap[cb]? = some (.cells #[.slice A1 q c1] 44) := by
        have := (H4.out.block cb (Array.getElem?_eq_some_iff.1 H3.out.1).1).trans H3.out.1
        rw [HD.out.2.2.2.1] at this; exact this
      have ho4 : OwnA cb D wc (.slice A1 q c1) := by
        have := row_below4 H3.out.2.1 H4.out
        rw [HD.out.2.2.2.1] at this
        unfold OwnA; rw [HD.out.2.2.2.1]; exact this
      have hb4 := (H4.out.block _ (Array.getElem?_eq_some_iff.1 H3.out.2.2.2.1).1).trans H3.out.2.2.2.1
      have hk4 : KpT cb w wc := ((KpT.below H2.out.1 (Nat.le_of_lt HH.out.1.lt)).trans H3.out.2.2.1).trans (KpT.below H4.out (Nat.le_of_lt (Array.getElem?_eq_some_iff.1 H3.out.1).1))
      have hbc : w.heap.size ≠ cb := by have := HH.out.1.lt; omega
      have HW6 := Lib.hid (And.intro hc4 (And.intro ho4 (And.intro (Array.getElem?_eq_some_iff.1 hc4).1 (And.intro (fun k (hk : (Value.slice A1 q c1).ownBlock = some k) => (ho4.lt k hk).2) (And.intro (Array.getElem?_eq_some_iff.1 hb4).1 (And.intro hbc (And.intro (own_ne ho4 hb4 (by decide)) (And.intro (show wc.cell? ⟨w.heap.size, 0, none⟩ = some (.int .i64 (clampN now)) by rw [cell_of_row _ _ _ _ _ _ hb4]; rfl) hk4))))))))
      clear hc4 ho4 hb4 hk4 hbc hcc4 hcc
      have hPk6 : ∀ wa wb x, Fr cb none wa wb → KeptA cb w.heap.size D k ⟨fr, id, clampN now, l⟩ wa x → KeptA cb w.heap.size D k ⟨fr, id, clampN now, l⟩ wb x := fun _ _ _ => KeptA.keep
      go_upto_region 6 with fail
      refine wp_region_relG (GS wc cb (Value.slice A1 q c1).ownBlock (KeptA cb w.heap.size D k ⟨fr, id, clampN now, l⟩) 4 13 16) (GT cb (Value.slice A1 q c1).ownBlock) (K6R cb (.slice A1 q c1) fr id (clampN now) k A n c l wc) [(0, .pointer (some ⟨cb, 0, none⟩)), (1, .int .i64 fr), (2, .int .i64 id), (4, .slice A n c), (8, .pointer (some ⟨w.heap.size, 0, none⟩)), (10, .int .i64 (k : Int))] (by kernel_rfl) (by kernel_rfl) (by kernel_rfl) ?base none (GS.first trivial wc HW6.out.2.2.1) (fun i g w g' w' x hT h => K6R.grow HW6.out.2.2.1 HW6.out.2.2.2.1 hT h) ?steps ?fin
      case base =>
        intro x hx
        simp only [List.mem_cons, List.not_mem_nil, or_false] at hx
        rcases hx with rfl | rfl | rfl | rfl | rfl | rfl <;> exact ⟨rfl, rfl⟩
      case steps =>
        refine steps_cons ?_ (steps_cons ?_ (steps_cons ?_ (steps_cons ?_ (steps_cons ?_ (steps_cons ?_ (steps_cons ?_ (steps_cons ?_ (steps_cons ?_ (steps_cons ?_ (steps_cons ?_ (steps_cons ?_ (steps_cons ?_ (steps_cons ?_ (steps_cons ?_ (steps_cons ?_ (steps_cons ?_ steps_nil))))))))))))))))
        · intro a wx L g K hLi hLd hS hB hR hK
          rw [if_pos (wanted_none rfl)]
          have h0 := tmp_is (hB.1)
          go_simp
          exact hK (.pointer (some ⟨cb, 0, none⟩)) wx g (hS.quiet 0 (by decide) (by decide)) (GT.refl _ _) rfl
        · intro a wx L g K hLi hLd hS hB hR hK
          rw [if_pos (wanted_none rfl)]
          have h0 := tmp_is (hB.1)
          go_simp
          exact hK (.pointer (some ⟨cb, 0, none⟩)) wx g (hS.quiet 1 (by decide) (by decide)) (GT.refl _ _) rfl
        · intro a wx L g K hLi hLd hS hB hR hK
          rw [if_pos (wanted_none rfl)]
          have h38 := tmp_is (hR.1)
          go_simp
          exact hK (.pointer (some ⟨cb, 0, none⟩)) wx g (hS.quiet 2 (by decide) (by decide)) (GT.refl _ _) rfl
        · intro a wx L g K hLi hLd hS hB hR hK
          rw [if_pos (wanted_none rfl)]
          have h39 := tmp_is (hR.1)
          go_simp
          exact hK (.pointer (some ⟨cb, 0, none⟩)) wx g (hS.quiet 3 (by decide) (by decide)) (GT.refl _ _) rfl
        · intro a wx L g K hLi hLd hS hB hR hK
          rw [if_pos (wanted_none rfl)]
          have h40 := tmp_is (hR.1)
          have hc := cell_of_row _ _ 0 _ _ _ (((hS.old hLi).block cb HW6.out.2.2.1).trans HW6.out.1)
          simp only [List.getElem?_toArray, List.getElem?_cons_zero] at hc
          go_simp
          exact hK (.slice A1 q c1) wx g (hS.quiet 4 (by decide) (by decide)) (GT.refl _ _) rfl
        · intro a wx L g K hLi hLd hS hB hR hK
          rw [if_pos (wanted_none rfl)]
          have h10 := tmp_is (hB.2.2.2.2.2.1)
          go_simp
          exact hK (.int .i64 (k : Int)) wx g (hS.quiet 5 (by decide) (by decide)) (GT.refl _ _) rfl
        · intro a wx L g K hLi hLd hS hB hR hK
          rw [if_pos (wanted_none rfl)]
          have h1 := tmp_is (hB.2.1)
          go_simp
          exact hK (.int .i64 fr) wx g (hS.quiet 6 (by decide) (by decide)) (GT.refl _ _) rfl
        · intro a wx L g K hLi hLd hS hB hR hK
          rw [if_pos (wanted_none rfl)]
          have h2 := tmp_is (hB.2.2.1)
          go_simp
          exact hK (.int .i64 id) wx g (hS.quiet 7 (by decide) (by decide)) (GT.refl _ _) rfl
        · intro a wx L g K hLi hLd hS hB hR hK
          rw [if_pos (wanted_none rfl)]
          have h8 := tmp_is (hB.2.2.2.2.1)
          have hc := (hS.fr.cell (b := w.heap.size) HW6.out.2.2.2.2.1 HW6.out.2.2.2.2.2.1 (fun e => HW6.out.2.2.2.2.2.2.1 e.symm) 0).trans HW6.out.2.2.2.2.2.2.2.1
          go_simp
          exact hK (.int .i64 (clampN now)) wx g (hS.quiet 8 (by decide) (by decide)) (GT.refl _ _) rfl
        · intro a wx L g K hLi hLd hS hB hR hK
          rw [if_pos (wanted_none rfl)]
          have h4 := tmp_is (hB.2.2.2.1)
          go_simp
          exact hK (.slice A n c) wx g (hS.quiet 9 (by decide) (by decide)) (GT.refl _ _) rfl
        · intro a wx L g K hLi hLd hS hB hR hK
          rw [if_pos (wanted_none rfl)]
          have h46 := tmp_is (hR.1)
          go_simp
          refine (caclone_f A n c l wx _ (HH.out.2 wx (HW6.out.2.2.2.2.2.2.2.2.trans (KpT.of_fr hS.fr HW6.out.1 HW6.out.2.1))) (Nat.le_refl _) (by omega)).mono ?_
          rintro e w' ⟨v', rfl, ho, hb⟩
          obtain ⟨A', c', rfl, _, _⟩ := Bs.of_own ho
          exact hK _ w' g (hS.call hPk6 HW6.out.2.2.1 10 (by decide : 13 ≠ 10) (by decide : 16 ≠ 10) hb) (GT.below hb) ⟨A', c', rfl, own_mono ho hS.fr.size⟩
        · intro a wx L g K hLi hLd hS hB hR hK
          rw [if_pos (wanted_none rfl)]
          have h43 := tmp_is (hR.1)
          have h44 := tmp_is (hR.2.1)
          have h45 := tmp_is (hR.2.2.1)
          obtain ⟨A', c', hv, ho⟩ := hR.2.2.2.1
          have h47 := tmp_is hv
          go_simp
          exact hK (.agg #[.int .i64 fr, .int .i64 id, .int .i64 (clampN now), .slice A' l.length c']) wx g (hS.quiet 11 (by decide) (by decide)) (GT.refl _ _) ⟨A', c', rfl, ho⟩
        · intro a wx L g K hLi hLd hS hB hR hK
          rw [if_pos (wanted_none rfl)]
          obtain ⟨A', c', hv, ho⟩ := hR.1
          have h48 := tmp_is hv
          go_simp
          exact hK (.slice (some ⟨wx.heap.size, 0, none⟩) 1 1) _ g (hS.call hPk6 HW6.out.2.2.1 12 (by decide : 13 ≠ 12) (by decide : 16 ≠ 12) (alloc_below wx _)) (GT.below (alloc_below wx _)) ⟨wx.heap.size, A', c', rfl, ⟨hS.fr.size, by rw [alloc_size]; omega⟩, heap_alloc_new wx _, row_below4 ho (alloc_below wx _)⟩
        · intro a wx L g K hLi hLd hS hB hR hK
          rw [if_pos (wanted_none rfl)]
          have h41 := tmp_is (hR.1)
          have h42 := tmp_is (hR.2.1)
          obtain ⟨vb, A', c', hv, hvl, hvb, ho⟩ := hR.2.2.1
          have h49 := tmp_is hv
          go_simp
          have hbe := (hS.early hLi).2
          have hrw := row_below4 HW6.out.2.1 hbe
          have hvne : (Value.slice A1 q c1).ownBlock ≠ some vb := fun e => by have := HW6.out.2.2.2.1 vb e; omega
          have hln : l.length = n := (HH.out.2 wx (HW6.out.2.2.2.2.2.2.2.2.trans (KpT.of_fr hS.fr HW6.out.1 HW6.out.2.1))).len
          refine (cains_f (n := D.length) (.slice A1 q c1) k hrw (by have := HD.out.2.2.2.1; omega) HD.out.2.2.2.2.2.1 (by have := hbe.size; have := HW6.out.2.2.1; omega) vb ⟨fr, id, clampN now, A', l.length, c'⟩ hvb hvne).mono ?_
          rintro e w' ⟨v', rfl, ho2, hg⟩
          have hz := hS.row_ HW6.out.2.2.1 (fun e => by have := (HW6.out.2.1.lt cb e).1; omega) hLi (hLd 4 (by decide)) (by decide : 16 ≠ 13) (x := v') hg ⟨⟨fr, id, clampN now, A', l.length, c'⟩, ho2, HH.out.1.lt, rfl, rfl, rfl, own_mono (ho.kept hg (own_row HW6.out.2.2.2.1 ho)) HW6.out.2.2.2.2.2.2.2.2.size, by show (l.length : Int) ≤ _; omega⟩
          exact hK v' w' (some v') hz.1 hz.2 rfl
        · intro a wx L g K hLi hLd hS hB hR hK
          rw [if_pos (wanted_none rfl)]
          have h37 := tmp_is (hR.1)
          go_simp
          exact hK (.pointer (some ⟨cb, 0, none⟩)) wx g (hS.quiet 14 (by decide) (by decide)) (GT.refl _ _) rfl
        · intro a wx L g K hLi hLd hS hB hR hK
          rw [if_pos (wanted_none rfl)]
          have h51 := tmp_is (hR.1)
          go_simp
          exact hK (.pointer (some ⟨cb, 0, none⟩)) wx g (hS.quiet 15 (by decide) (by decide)) (GT.refl _ _) rfl
        · intro a wx L g K hLi hLd hS hB hR hK
          rw [if_pos (wanted_none rfl)]
          have h52 := tmp_is (hR.1)
          have hgx : g = some (a.eval (.tmp 50)) := hR.2.1
          obtain ⟨x, hx⟩ : ∃ x, a.eval (.tmp 50) = x := ⟨_, rfl⟩
          rw [hx] at hgx
          have h50 := tmp_is hx
          have hst := hS.store hPk6 HW6.out.1 (show L 16 = false from hLi) (hLd 13 (by decide)) (by decide : 13 ≠ 16) hgx
          have hc := cell_of_row _ _ 0 _ _ _ ((hS.cell0 hLi).trans HW6.out.1)
          simp only [List.getElem?_toArray, List.getElem?_cons_zero] at hc
          have hf : wx.frozen? ⟨cb, 0, none⟩ = false := by simp [World.frozen?, (hS.cell0 hLi).trans HW6.out.1]
          obtain ⟨A2, n2, c2, rfl⟩ := KeptA.slice_ (hS.made x hgx)
          go_simp
          exact hK undef _ g hst.1 hst.2 trivial
      case fin =>
        intro a w7 L g hS hall ha hR
        obtain ⟨v2, hgv, hc7⟩ := hS.cell1 (hall 16 (by decide))
        have ho7 := hS.made v2 hgv
        have hk7 := HW6.out.2.2.2.2.2.2.2.2.trans (KpT.of_fr hS.fr HW6.out.1 HW6.out.2.1)
        clear hR hS hgv hall
        simp only [pin] at ha
        rw [ha]
        simp only [List.setIfInBounds_toArray, List.set_cons_zero, List.set_cons_succ]
        clear ha
        obtain ⟨s, hs1, hs0, hsB⟩ := ho7
        have hs2 : Ka w7 (cb + 1) s ⟨fr, id, clampN now, l⟩ := ⟨hsB.f, hsB.i, hsB.t, own_mono hsB.b hs0, hsB.max⟩
        have hsn : ∀ x ∈ D.take k ++ s :: D.drop k, x ∈ vs ∨ ∀ a, x.A = some a → w.heap.size ≤ a.block := by
          intro x hx
          have hD0 : ∀ y ∈ D, y ∈ vs := HD.out.2.2.2.2.2.2
          rcases List.mem_append.1 hx with hx | hx
          · exact .inl (hD0 x (List.mem_of_mem_take hx))
          · rcases List.mem_cons.1 hx with rfl | hx
            · exact .inr fun a ha => (hsB.b.lt a.block (by rw [ha]; rfl)).1
            · exact .inl (hD0 x (List.mem_of_mem_drop hx))
        have hs1' : w7.ownsRow (cb + 1) 48 4 v2 (D.take k ++ s :: D.drop k).length (ans (D.take k ++ s :: D.drop k)) := by rw [List.length_append, List.length_cons, List.length_take, List.length_drop, show min k D.length + (D.length - k + 1) = D.length + 1 by have := HD.out.2.2.2.1; omega]; exact hs1
        obtain ⟨A2, c2, rfl, hc2, _⟩ := Ah.of_own hs1'
        have hl7 : (D.take k ++ s :: D.drop k).length = q + 1 := by rw [List.length_append, List.length_cons, List.length_take, List.length_drop]; have := HD.out.2.2.2.1; omega
        have hDk : All2 (Ka w7 (cb + 1)) D dq := HD.out.1.imp fun s q hk => hk.kpt hk7
        have hfull : All2 (Ka w7 (cb + 1)) (D.take k ++ s :: D.drop k) (dq.take k ++ ⟨fr, id, clampN now, l⟩ :: dq.drop k) := (hDk.take k).append ⟨hs2, hDk.drop k⟩
        have htk7 : ∀ x ∈ (D.take k ++ s :: D.drop k), 0 ≤ x.t ∧ x.t ≤ 1099511627776 := by
          intro x hx
          rcases List.mem_append.1 hx with hx | hx
          · exact HD.out.2.2.2.2.1 x (List.mem_of_mem_take hx)
          · rcases List.mem_cons.1 hx with rfl | hx
            · rw [hs2.t]; exact clampN_in now
            · exact HD.out.2.2.2.2.1 x (List.mem_of_mem_drop hx)
        have hkq := HD.out.2.1
        have hrow7 : w7.ownsRow (cb + 1) 48 4 (.slice A2 (D.take k ++ s :: D.drop k).length c2) (D.take k ++ s :: D.drop k).length (ans (D.take k ++ s :: D.drop k)) := by
          rw [hl7]; rw [hl7] at hs1'; exact hs1'
        rw [← hfull.len] at hkq
        rw [hl7] at hkq hc2
        have hcc7 : w7.cell? ⟨cb, 0, none⟩ = some (.slice A2 (q + 1) c2) := by rw [cell_of_row _ _ _ _ _ _ hc7, ← hl7]; rfl
        have hqI : (q : Int) ≤ 8 := by omega
        by_cases h8 : q = 8
        · subst h8
          rw [if_pos (by omega)] at hkq
          obtain ⟨g7, off7, rfl, _⟩ : ∃ g7 off7, A2 = some ⟨g7, off7, none⟩ ∧ True := by
            rcases hrow7.2 with ⟨_, h'⟩ | ⟨g', cap', cur, h', _⟩
            · rw [hl7] at h'; omega
            · injection h' with h' _ _; exact ⟨g', 0, h', trivial⟩
          obtain rfl : off7 = 0 := by
            rcases hrow7.2 with ⟨_, h'⟩ | ⟨g', cap', cur, h', _⟩
            · rw [hl7] at h'; omega
            · injection h' with h' _ _; injection h' with h'; injection h' with _ h' _
          replace hl7 : (D.take k ++ s :: D.drop k).length = 9 := hl7
          replace hcc7 : w7.cell? ⟨cb, 0, none⟩ = some (.slice (some ⟨g7, 0, none⟩) 9 c2) := hcc7
          have hdel := caout_f (base := cb + 1) g7 c2 hrow7 (by rw [hl7]; omega) (by rw [hl7]; omega)
          rw [hl7] at hdel
          have hgne : cb ≠ g7 := fun e => by have := (hrow7.lt g7 rfl).1; omega
          have H7 := Lib.hid (And.intro hc7 (And.intro hk7 (And.intro hkq (And.intro hfull (And.intro htk7 (And.intro hl7 hrow7))))))
          have HDE := Lib.hid hdel
          clear hc7 hk7 hkq hfull htk7 hl7 hrow7 hdel hs1 hs1' hs2 hDk
          go_wp2_with fail
          refine HDE.out.mono ?_
          rintro e w8 ⟨rfl, ho8, hg8⟩
          have hc8 := (hg8.block cb (Array.getElem?_eq_some_iff.1 H7.out.1).1 (by simpa using hgne)).trans H7.out.1
          have hcc8 : w8.cell? ⟨cb, 0, none⟩ = some (.slice (some ⟨g7, 0, none⟩) 9 c2) := by
            rw [cell_of_row _ _ _ _ _ _ hc8, ← H7.out.2.2.2.2.2.1]; rfl
          have hcf8 : w8.frozen? ⟨cb, 0, none⟩ = false := by simp [World.frozen?, hc8]
          have H8 := Lib.hid (And.intro ho8 (And.intro hg8 hc8))
          clear ho8 hg8 hc8
          go_wp2
          go_end0
          have hst := Fr.store (cb := cb) w8 (.slice (some ⟨g7, 0, none⟩) (9 - 1) c2)
          have hfr : Fr cb (Value.slice (some ⟨g7, 0, none⟩) (D.take k ++ s :: D.drop k).length c2).ownBlock w7 _ := (Fr.grown H8.out.2.1).trans hst.wide
          have hkp := KpT.of_fr hfr H7.out.1 H7.out.2.2.2.2.2.2
          have hal := (H7.out.2.2.2.1.drop 1).imp fun s q hk => hk.kpt hkp
          have hle : ((D.take k ++ s :: D.drop k).drop 1).length = 9 - 1 := by rw [List.length_drop, H7.out.2.2.2.2.2.1]
          refine ⟨rfl, ⟨.slice (some ⟨g7, 0, none⟩) (9 - 1) c2, (D.take k ++ s :: D.drop k).drop 1, ?_, fun x hx => hsn x (List.mem_of_mem_drop hx)⟩, H7.out.2.1.trans hkp⟩
          rw [H7.out.2.2.1]
          refine ⟨heap_setCell_same w8 cb 0 _ 44 _ H8.out.2.2, ?_, (fun x hx => H7.out.2.2.2.2.1 x (List.mem_of_mem_drop hx)), hal.len, by omega, hal.at_⟩
          rw [hle]
          exact hst.row_ H8.out.1 (own_blk H8.out.1 (by omega)) (own_none _)
        · rw [if_neg (by omega)] at hkq
          have h8I : (q : Int) < 8 := by omega
          have H7 := Lib.hid (And.intro hc7 (And.intro hk7 (And.intro hkq (And.intro hfull (And.intro htk7 (And.intro hl7 hrow7))))))
          clear hc7 hk7 hkq hfull htk7 hl7 hrow7 hs1 hs1' hs2 hDk
          go_wp2
          go_end0
          refine ⟨rfl, ⟨.slice A2 (D.take k ++ s :: D.drop k).length c2, D.take k ++ s :: D.drop k, ?_, hsn⟩, H7.out.2.1⟩
          rw [H7.out.2.2.1]
          exact ⟨H7.out.1, H7.out.2.2.2.2.2.2, H7.out.2.2.2.2.1, H7.out.2.2.2.1.len, (by have := H7.out.2.2.2.2.2.1; omega), H7.out.2.2.2.1.at_⟩

theorem cakeep_f (cb : Nat) (v0 : Value) (vs : List An) (qs : List Qa) (w : World) (h : CaAt w cb v0 vs qs) (fr id now : Int) (A : Option Addr) (n c : Nat) (l : List UInt8) (hbs : ∀ W, KpT cb w W → Bs W W.heap.size A n l) (hn : (n : Int) ≤ 1099511627776) :
    Calls Try.prog 9 #[.pointer (some ⟨cb, 0, none⟩), .int .i64 fr, .int .i64 id, .int .i64 now, .slice A n c] w fun e w' => e = .returned (.tuple #[]) ∧ (∃ v' vs', CaAt w' cb v' vs' (keepQ qs fr id now l)) ∧ KpT cb w w' :=
  (cakeep2_f cb v0 vs qs w h fr id now A n c l hbs hn).mono fun _ _ ⟨h1, ⟨v', vs', h2, _⟩, h3⟩ => ⟨h1, ⟨v', vs', h2⟩, h3⟩
end Go.Proofs.Ytdlgemlpbpbhcaa
