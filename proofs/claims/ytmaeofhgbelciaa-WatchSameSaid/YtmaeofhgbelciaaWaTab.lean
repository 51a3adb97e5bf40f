/-
  The table of watches at its address: what is found, what is taken away.
-/
import Derived.Test.YtmaeofhgbelciaaWaDue
namespace Go.Proofs.Ytmaeofhgbelciaa
open Go.RowKit
set_option maxRecDepth 100000
set_option maxRecDepth 100000
set_option linter.unusedVariables false
/-- Its times and numbers. -/
def Wtm (s : Wr) : Prop := (0 ≤ s.q.t ∧ s.q.t ≤ 1099511627776) ∧ (0 ≤ s.q.sq ∧ s.q.sq < 16777216) ∧ In64 s.q.v.n
/-- The table at its address; what it has lies from block tb on. -/
structure WtAt (w : World) (tb : Nat) (v : Value) (vs : List Wr) : Prop where
  blk : w.heap[tb]? = some (.cells #[v] 68)
  row : w.ownsRow tb 37 21 v vs.length (wK.all vs)
  each : ∀ s ∈ vs, Wok w tb s ∧ Wsm s ∧ Wtm s
  few : vs.length ≤ 6
section
variable {w w' : World} {tb : Nat} {v : Value} {vs : List Wr}
theorem WtAt.lt (h : WtAt w tb v vs) : tb < w.heap.size := (Array.getElem?_eq_some_iff.1 h.blk).1
theorem WtAt.below (h : WtAt w tb v vs) (hb : Below w.heap.size w w') : WtAt w' tb v vs :=
  ⟨(hb.block tb h.lt).trans h.blk, rk_below h.row hb, fun s hs => ⟨(h.each s hs).1.below hb, (h.each s hs).2⟩, h.few⟩
theorem WtAt.cell0 (h : WtAt w tb v vs) : w.cell? ⟨tb, 0, none⟩ = some v := by rw [cell_of_row _ _ _ _ _ _ h.blk]; rfl
theorem WtAt.fz (h : WtAt w tb v vs) (k : Nat) : w.frozen? ⟨tb, k, none⟩ = false := by simp [World.frozen?, h.blk]
theorem WtAt.open_ (h : WtAt w tb v vs) : ∃ A c, v = .slice A vs.length c ∧ vs.length ≤ c ∧ c ≤ maxLen ∧ wK.At w w.heap.size A vs.length vs ∧ ∀ a, A = some a → ∃ g, a = ⟨g, 0, none⟩ ∧ tb ≤ g := RowK.At.of_own h.row
theorem WtAt.row_ne (h : WtAt w tb v vs) : v.ownBlock ≠ some tb := rk_ne h.row h.blk (by decide)
end
/-- Bytes and numbers of a watch stand under what turns the table and its row. -/
theorem Wok.fxt {w w' : World} {tb B k m : Nat} {s : Wr} {v u : Value} {xs : List Value} (h : Wok w B s) (hf : Fx tb v.ownBlock w w') (hb : w.heap[tb]? = some (.cells #[u] 68)) (hr : w.ownsRow k 37 21 v m xs) : Wok w' B s :=
  h.fx hf fun n c A e sz xs he ho => by
    rcases he with rfl | rfl
    · exact ⟨rk_ne ho hb (by decide), rk_apart ho hr (by decide)⟩
    · exact ⟨rk_ne ho hb (by decide), rk_apart ho hr (by decide)⟩
theorem wnew_f (w : World) : Calls Try.prog 10 #[] w fun e w' => e = .returned (.pointer (some ⟨w.heap.size, 0, none⟩)) ∧ WtAt w' w.heap.size (.slice none 0 0) [] ∧ Below w.heap.size w w' ∧ w'.heap.size = w.heap.size + 1 := by
  have hj : WtAt (w.alloc (.cells #[.slice none 0 0] 68)) w.heap.size (.slice none 0 0) [] :=
    ⟨heap_alloc_new w _, World.ownsRow_nil _ _ _ _, (fun s hs => by cases hs), by decide⟩
  have HJ := Lib.hid hj
  clear hj
  go_enter Try.func10, Try.ntmps10
  go_wp2
  go_ret
  exact ⟨rfl, HJ.out, alloc_below _ _, alloc_size _ _⟩
theorem wlen_f {tb : Nat} {v : Value} {vs : List Wr} {w : World} (h : WtAt w tb v vs) : Calls Try.prog 28 #[.pointer (some ⟨tb, 0, none⟩)] w fun e w' => e = .returned (.int .i64 (vs.length : Int)) ∧ w' = w := by
  obtain ⟨A, c, rfl, _⟩ := h.open_
  have c0 := h.cell0
  clear h
  generalize vs.length = n at *
  go_enter Try.func28, Try.ntmps28
  go_wp2
  go_ret
  exact ⟨rfl, rfl⟩
theorem of_f (sv : Int) (A : Option Addr) (n c : Nat) (w : World) : Calls Try.prog 41 #[.int .i64 sv, .slice A n c] w fun e w' => e = .returned (.func (.func 55) #[] #[.pointer (some ⟨w.heap.size, 0, none⟩), .pointer (some ⟨w.heap.size + 1, 0, none⟩)]) ∧ w' = (w.alloc (.cells #[.int .i64 sv] 3)).alloc (.cells #[.slice A n c] 31) := by
  go_enter Try.func41, Try.ntmps41
  go_wp2
  go_ret
  exact ⟨rfl, rfl⟩
/-- What a closure that looks for a server and a token has. -/
def OfV (sv : Int) (A : Option Addr) (n c : Nat) (v : Value) (W : World) : Prop := ∃ b1 b2, v = .func (.func 55) #[] #[.pointer (some ⟨b1, 0, none⟩), .pointer (some ⟨b2, 0, none⟩)] ∧ b1 < W.heap.size ∧ b2 < W.heap.size ∧ W.cell? ⟨b1, 0, none⟩ = some (.int .i64 sv) ∧ W.cell? ⟨b2, 0, none⟩ = some (.slice A n c)
theorem OfV.new_ (sv : Int) (A : Option Addr) (n c : Nat) (w : World) : OfV sv A n c (.func (.func 55) #[] #[.pointer (some ⟨w.heap.size, 0, none⟩), .pointer (some ⟨w.heap.size + 1, 0, none⟩)]) ((w.alloc (.cells #[.int .i64 sv] 3)).alloc (.cells #[.slice A n c] 31)) :=
  ⟨_, _, rfl, by rw [alloc_size, alloc_size]; omega, by rw [alloc_size, alloc_size]; omega, by rw [cell_of_row _ _ _ _ _ _ (heap_alloc2_old w _ _)]; rfl, by
    have h := heap_alloc_new (w.alloc (.cells #[.int .i64 sv] 3)) (.cells #[.slice A n c] 31)
    rw [alloc_size] at h
    rw [cell_of_row _ _ _ _ _ _ h]; rfl⟩
theorem OfV.below {sv : Int} {A : Option Addr} {n c : Nat} {v : Value} {W W' : World} (h : OfV sv A n c v W) (hb : Below W.heap.size W W') : OfV sv A n c v W' := by
  obtain ⟨b1, b2, e, h1, h2, h3, h4⟩ := h
  exact ⟨b1, b2, e, Nat.lt_of_lt_of_le h1 hb.size, Nat.lt_of_lt_of_le h2 hb.size, (hb.cell (p := ⟨b1, 0, none⟩) h1).trans h3, (hb.cell (p := ⟨b2, 0, none⟩) h2).trans h4⟩
theorem OfV.keep {sv : Int} {A : Option Addr} {n c : Nat} {v : Value} {W W' : World} (h : OfV sv A n c v W) (hz : W.heap.size ≤ W'.heap.size) (hb : ∀ (k : Nat) cs, W.heap[k]? = some (.cells cs 3 (0, 0)) ∨ True → k < W.heap.size → W'.cell? ⟨k, 0, none⟩ = W.cell? ⟨k, 0, none⟩) : OfV sv A n c v W' := by
  obtain ⟨b1, b2, e, h1, h2, h3, h4⟩ := h
  exact ⟨b1, b2, e, by omega, by omega, (hb b1 #[] (.inr trivial) h1).trans h3, (hb b2 #[] (.inr trivial) h2).trans h4⟩
def FdR (tb : Nat) (tv : Value) (sv : Int) (A : Option Addr) (n c : Nat) (x : Int) (i : Nat) (W : World) (v : Value) : Prop :=
  match i with
  | 0 | 1 | 2 => v = .pointer (some ⟨tb, 0, none⟩)
  | 3 => v = tv
  | 4 => v = .int .i64 sv
  | 5 => v = .slice A n c
  | 6 => OfV sv A n c v W
  | 7 | 8 => v = .int .i64 x
  | _ => True
theorem fdr_up {tb : Nat} {tv : Value} {sv : Int} {A : Option Addr} {n c : Nat} {x : Int} (i : Nat) (W W' : World) (v : Value) (hT : Below W.heap.size W W') (h : FdR tb tv sv A n c x i W v) : FdR tb tv sv A n c x i W' v := by
  unfold FdR at h ⊢
  split at h <;> first | exact h | exact h.below hT | trivial
set_option maxHeartbeats 4000000 in
theorem wfind_f {tb : Nat} {v : Value} {vs : List Wr} {w : World} (h : WtAt w tb v vs) (sv : Int) (A : Option Addr) (n c : Nat) (tok : List UInt8) (hb : Bs w w.heap.size A n tok) :
    Calls Try.prog 33 #[.pointer (some ⟨tb, 0, none⟩), .int .i64 sv, .slice A n c] w fun e w' => e = .returned (.int .i64 (idxW (hitW sv tok) vs)) ∧ Below w.heap.size w w' := by
  obtain ⟨A1, c1, rfl, _, _, hat, _⟩ := h.open_
  have hlt := h.lt
  have c0 := h.cell0
  have hidx : ∀ (W : World) (fv : Value), Below w.heap.size w W → OfV sv A n c fv W → Calls Try.prog 48 #[.slice A1 vs.length c1, fv] W fun e w' => e = .returned (.int .i64 (idxW (hitW sv tok) vs)) ∧ Below W.heap.size W w' := by
    intro W fv hW hf
    obtain ⟨b1, b2, rfl, h1, h2, h3, h4⟩ := hf
    exact indexW_f 55 #[.pointer (some ⟨b1, 0, none⟩), .pointer (some ⟨b2, 0, none⟩)] (hitW sv tok) fn_of A1 vs.length c1 vs W ((hat.below hW).more hW.size) (by have := h.few; omega) (fun W2 s hb2 hs => of1_f b1 b2 sv A n c tok s W2 (((h.below hW).below hb2).each s hs).1.rd (h.each s hs).2.1 (Nat.lt_of_lt_of_le h1 hb2.size) (Nat.lt_of_lt_of_le h2 hb2.size) ((hb2.cell (p := ⟨b1, 0, none⟩) h1).trans h3) ((hb2.cell (p := ⟨b2, 0, none⟩) h2).trans h4) (((hb.below hW).below' hb2 hW.size).lt))
  obtain ⟨X, hX⟩ : ∃ X, idxW (hitW sv tok) vs = X := ⟨_, rfl⟩
  rw [hX] at hidx ⊢
  have HH := Lib.hid (And.intro hidx (And.intro c0 hlt))
  clear hidx hb hat h hX hlt
  go_enter Try.func33, Try.ntmps33
  go_wp2
  refine wp_region_rel2 (fun W => Below w.heap.size w W) (fun W W' => Below W.heap.size W W') (FdR tb (.slice A1 vs.length c1) sv A n c X) [(0, .pointer (some ⟨tb, 0, none⟩)), (1, .int .i64 sv), (2, .slice A n c)] (by kernel_rfl) (by kernel_rfl) (by kernel_rfl) ?base (Below.drew (Below.refl _ _)) fdr_up ?steps ?fin
  case base =>
    intro x hx
    simp only [List.mem_cons, List.not_mem_nil, or_false] at hx
    rcases hx with rfl | rfl | rfl <;> exact ⟨rfl, rfl⟩
  case steps =>
    refine steps_cons ?_ (steps_cons ?_ (steps_cons ?_ (steps_cons ?_ (steps_cons ?_ (steps_cons ?_ (steps_cons ?_ (steps_cons ?_ (steps_cons ?_ steps_nil))))))))
    · intro a wx K hS hB hR hK
      rw [if_pos (wanted_none rfl)]
      have h0 := tmp_is (hB.1)
      go_simp
      exact hK (.pointer (some ⟨tb, 0, none⟩)) wx hS (Below.refl _ _) rfl
    · intro a wx K hS hB hR hK
      rw [if_pos (wanted_none rfl)]
      have h7 := tmp_is (hR.1)
      go_simp
      exact hK (.pointer (some ⟨tb, 0, none⟩)) wx hS (Below.refl _ _) rfl
    · intro a wx K hS hB hR hK
      rw [if_pos (wanted_none rfl)]
      have h8 := tmp_is (hR.1)
      go_simp
      exact hK (.pointer (some ⟨tb, 0, none⟩)) wx hS (Below.refl _ _) rfl
    · intro a wx K hS hB hR hK
      rw [if_pos (wanted_none rfl)]
      have h9 := tmp_is (hR.1)
      have hc := (hS.cell (p := ⟨tb, 0, none⟩) HH.out.2.2).trans HH.out.2.1
      go_simp
      exact hK (.slice A1 vs.length c1) wx hS (Below.refl _ _) rfl
    · intro a wx K hS hB hR hK
      rw [if_pos (wanted_none rfl)]
      have h1 := tmp_is (hB.2.1)
      go_simp
      exact hK (.int .i64 sv) wx hS (Below.refl _ _) rfl
    · intro a wx K hS hB hR hK
      rw [if_pos (wanted_none rfl)]
      have h2 := tmp_is (hB.2.2.1)
      go_simp
      exact hK (.slice A n c) wx hS (Below.refl _ _) rfl
    · intro a wx K hS hB hR hK
      rw [if_pos (wanted_none rfl)]
      have h11 := tmp_is (hR.1)
      have h12 := tmp_is (hR.2.1)
      go_simp
      refine (of_f sv A n c wx).mono ?_
      rintro e w3 ⟨rfl, rfl⟩
      have hb3 := (alloc_below wx (.cells #[.int .i64 sv] 3)).trans ((alloc_below (wx.alloc (.cells #[.int .i64 sv] 3)) (.cells #[.slice A n c] 31)).mono (alloc_below wx _).size)
      exact hK _ _ (hS.trans (hb3.mono hS.size)) hb3 (OfV.new_ sv A n c wx)
    · intro a wx K hS hB hR hK
      rw [if_pos (wanted_none rfl)]
      have h10 := tmp_is (hR.1)
      have hfv := hR.2.1
      obtain ⟨fv, hfe⟩ : ∃ fv, a.eval (.tmp 13) = fv := ⟨_, rfl⟩
      have h13 := tmp_is hfe
      replace hfv : OfV sv A n c fv wx := by rw [← hfe]; exact hfv
      go_simp
      refine (HH.out.1 wx fv hS hfv).mono ?_
      rintro e w3 ⟨rfl, b3⟩
      exact hK _ _ (hS.trans (b3.mono hS.size)) b3 rfl
    · intro a wx K hS hB hR hK
      rw [if_pos (wanted_none rfl)]
      have h14 := tmp_is (hR.1)
      go_simp
      exact hK (.int .i64 X) wx hS (Below.refl _ _) rfl
  case fin =>
    intro a wx hS ha hR
    have hx6 : a.eval (.tmp 6) = .int .i64 X := deps_mem _ hR 8 (by decide)
    have H8 := Lib.hid hS
    clear hR hS
    simp only [pin] at ha
    rw [ha]
    simp only [List.setIfInBounds_toArray, List.set_cons_zero, List.set_cons_succ, hx6]
    clear ha hx6
    go_wp2
    go_ret
    exact ⟨rfl, H8.out⟩
end Go.Proofs.Ytmaeofhgbelciaa
