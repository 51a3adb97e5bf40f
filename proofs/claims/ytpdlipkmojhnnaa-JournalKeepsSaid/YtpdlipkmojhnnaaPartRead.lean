/-
  A part read.
-/
import Derived.Test.YtpdlipkmojhnnaaPart
import Derived.Test.YtpdlipkmojhnnaaRel
namespace Go.Proofs.Ytpdlipkmojhnnaa
open Go.RowKit
set_option maxRecDepth 100000
/-- A row of its own with the bytes. -/
def Own (B n : Nat) (l : List UInt8) (w : World) (v : Value) : Prop := ∃ I, B ≤ I ∧ I < w.heap.size ∧ v = .slice (some ⟨I, 0, none⟩) n n ∧ Bs w w.heap.size (some ⟨I, 0, none⟩) n l
theorem Own.grow {B n : Nat} {l : List UInt8} {w w' : World} {v : Value} (h : Own B n l w v) (hb : Below w.heap.size w w') : Own B n l w' v := by
  obtain ⟨I, h1, h2, h3, h4⟩ := h
  exact ⟨I, h1, Nat.lt_of_lt_of_le h2 hb.size, h3, (h4.below hb).lt⟩
/-- What each operation of the last line leaves. -/
def PR (B pp g be p n q : Nat) (l : List UInt8) (i : Nat) (w : World) (v : Value) : Prop :=
  match i with
  | 2 => v = .pointer (some ⟨pp, 0, none⟩)
  | 3 => v = .pointer (some ⟨g, 0, none⟩)
  | 6 => v = .pointer (some ⟨pp, 3, none⟩)
  | 7 => v = .int .i64 (be : Int)
  | 8 => v = .int .i64 (p : Int)
  | 9 => v = .int .i64 (q : Int)
  | 10 => v = .int .i64 (n : Int)
  | 11 => ∃ s, v = .tuple #[s, .int .i64 0] ∧ Own B n l w s
  | 12 => Own B n l w v
  | 13 => v = .int .i64 0
  | 14 => Own B n l w v
  | 15 => v = .int .i64 0
  | _ => v = .pointer (some ⟨pp, 0, none⟩)
theorem PR.grow {B pp g be p n q : Nat} {l : List UInt8} (i : Nat) (w w' : World) (v : Value) (hb : Below w.heap.size w w') (h : PR B pp g be p n q l i w v) : PR B pp g be p n q l i w' v := by
  unfold PR at h ⊢
  split at h
  case h_8 => obtain ⟨s, h1, h2⟩ := h; exact ⟨s, h1, h2.grow hb⟩
  case h_9 => exact Own.grow h hb
  case h_11 => exact Own.grow h hb
  all_goals exact h
theorem pread_yes (W : World) (pp g bb wb fi co be si : Nat) (F : Fl) (p n : Nat) (h : PartAt W pp g fi co be si) (hf : FlashAt W g bb wb F) (hs : be + si ≤ F.dat.length) (hc : pck F si p n = 0) :
    Calls Try.prog 38 #[.pointer (some ⟨pp, 0, none⟩), .int .i64 (p : Int), .int .i64 (n : Int)] W fun e w' => ∃ v, e = .returned (.tuple #[v, .int .i64 0]) ∧ Own W.heap.size n (piece F (be + p) n) w' v ∧ Below W.heap.size W w' := by
  have hsm := hf.ok.small
  obtain ⟨_, _, _, hpn⟩ := pck_zero hc
  have hk := pcheck_f W pp g bb wb fi co be si F p n h hf (by omega) (by omega) (by omega)
  have hck : ck F ((be + p : Nat) : Int) n = 0 := by rw [Int.natCast_add]; exact ck_of_pck hc hs
  have hr : ∀ w, Below W.heap.size W w → Calls Try.prog 53 #[.pointer (some ⟨g, 0, none⟩), .int .i64 ((be + p : Nat) : Int), .int .i64 (n : Int)] w fun e w' => ∃ s, e = .returned (.tuple #[s, .int .i64 0]) ∧ Own W.heap.size n (piece F (be + p) n) w' s ∧ Below w.heap.size w w' :=
    fun w hw => (read_yes w g bb wb F (be + p) n (hf.below hw) hck).mono fun e w' ⟨h1, h2, h3, h4, _⟩ => ⟨_, h1, ⟨w.heap.size, hw.size, h4, rfl, h2⟩, h3⟩
  rw [hc] at hk
  obtain ⟨q, hq⟩ : ∃ q, be + p = q := ⟨_, rfl⟩
  rw [hq] at hr
  rw [hq]
  obtain ⟨l, hl⟩ : ∃ l, piece F q n = l := ⟨_, rfl⟩
  rw [hl] at hr
  rw [hl]
  have hqi : (be : Int) + (p : Int) = (q : Int) := by omega
  have hqw : IntKind.i64.wrap (q : Int) = (q : Int) := by rw [IntKind.wrap_i64]; omega
  have c0 := h.c0
  have c3 := h.c3
  have hpl := h.lt
  clear hq hpn hsm hs hc hck hl hf h
  go_enter Try.func38, Try.ntmps38
  go_wp2_with fail
  refine hk.mono ?_
  rintro e w' ⟨rfl, hw⟩
  obtain rfl := hw.symm
  go_wp2_with fail
  refine wp_region_rel (fun w' => Below W.heap.size W w') (fun w w' => Below w.heap.size w w') (PR W.heap.size pp g be p n q l) [(0, .pointer (some ⟨pp, 0, none⟩)), (1, .int .i64 (p : Int)), (2, .int .i64 (n : Int))] (by kernel_rfl) (by kernel_rfl) (by kernel_rfl) ?base (drew_below W _) PR.grow ?steps ?fin
  case base =>
    intro x hx
    simp only [List.mem_cons, List.not_mem_nil, or_false] at hx
    rcases hx with rfl | rfl | rfl <;> exact ⟨rfl, rfl⟩
  case steps =>
    refine steps_cons ?_ (steps_cons ?_ (steps_cons ?_ (steps_cons ?_ (steps_cons ?_ (steps_cons ?_ (steps_cons ?_ (steps_cons ?_ (steps_cons ?_ (steps_cons ?_ (steps_cons ?_ (steps_cons ?_ (steps_cons ?_ (steps_cons ?_ (steps_cons ?_ (steps_cons ?_ steps_nil)))))))))))))))
    · intro a w K hS hB hR hK
      rw [if_pos (wanted_none rfl)]
      have ehB1 := tmp_is (hB.1)
      go_simp
      exact hK (.pointer (some ⟨pp, 0, none⟩)) w hS (Below.refl _ w) rfl
    · intro a w K hS hB hR hK
      rw [if_pos (wanted_none rfl)]
      have ehR1 := tmp_is (hR.1)
      go_simp
      exact hK (.pointer (some ⟨pp, 0, none⟩)) w hS (Below.refl _ w) rfl
    · intro a w K hS hB hR hK
      rw [if_pos (wanted_none rfl)]
      have ehR1 := tmp_is (hR.1)
      go_simp
      exact hK (.pointer (some ⟨pp, 0, none⟩)) w hS (Below.refl _ w) rfl
    · intro a w K hS hB hR hK
      rw [if_pos (wanted_none rfl)]
      have ehR1 := tmp_is (hR.1)
      have c0w := (hS.cell (p := ⟨pp, 0, none⟩) hpl).trans c0
      go_simp
      exact hK (.pointer (some ⟨g, 0, none⟩)) w hS (Below.refl _ w) rfl
    · intro a w K hS hB hR hK
      rw [if_pos (wanted_none rfl)]
      have ehB1 := tmp_is (hB.1)
      go_simp
      exact hK (.pointer (some ⟨pp, 0, none⟩)) w hS (Below.refl _ w) rfl
    · intro a w K hS hB hR hK
      rw [if_pos (wanted_none rfl)]
      have ehR1 := tmp_is (hR.1)
      go_simp
      exact hK (.pointer (some ⟨pp, 0, none⟩)) w hS (Below.refl _ w) rfl
    · intro a w K hS hB hR hK
      rw [if_pos (wanted_none rfl)]
      have ehR1 := tmp_is (hR.1)
      go_simp
      exact hK (.pointer (some ⟨pp, 3, none⟩)) w hS (Below.refl _ w) rfl
    · intro a w K hS hB hR hK
      rw [if_pos (wanted_none rfl)]
      have ehR1 := tmp_is (hR.1)
      have c3w := (hS.cell (p := ⟨pp, 3, none⟩) hpl).trans c3
      go_simp
      exact hK (.int .i64 (be : Int)) w hS (Below.refl _ w) rfl
    · intro a w K hS hB hR hK
      rw [if_pos (wanted_none rfl)]
      have ehB21 := tmp_is (hB.2.1)
      go_simp
      exact hK (.int .i64 (p : Int)) w hS (Below.refl _ w) rfl
    · intro a w K hS hB hR hK
      rw [if_pos (wanted_none rfl)]
      have ehR1 := tmp_is (hR.1)
      have ehR21 := tmp_is (hR.2.1)
      go_simp
      exact hK (.int .i64 (q : Int)) w hS (Below.refl _ w) rfl
    · intro a w K hS hB hR hK
      rw [if_pos (wanted_none rfl)]
      have ehB221 := tmp_is (hB.2.2.1)
      go_simp
      exact hK (.int .i64 (n : Int)) w hS (Below.refl _ w) rfl
    · intro a w K hS hB hR hK
      rw [if_pos (wanted_none rfl)]
      have ehR1 := tmp_is (hR.1)
      have ehR21 := tmp_is (hR.2.1)
      have ehR221 := tmp_is (hR.2.2.1)
      go_simp
      refine (hr w hS).mono ?_
      rintro e w' ⟨s, rfl, ho, hb⟩
      exact hK _ _ (hS.trans (hb.mono hS.size)) hb ⟨s, rfl, ho⟩
    · intro a w K hS hB hR hK
      rw [if_pos (wanted_none rfl)]
      obtain ⟨s, hs, ho⟩ := hR.1
      have e1 := tmp_is hs
      go_simp
      exact hK s w hS (Below.refl _ w) ho
    · intro a w K hS hB hR hK
      rw [if_pos (wanted_none rfl)]
      obtain ⟨s, hs, ho⟩ := hR.1
      have e1 := tmp_is hs
      go_simp
      exact hK (.int .i64 0) w hS (Below.refl _ w) rfl
    · intro a w K hS hB hR hK
      rw [if_pos (wanted_none rfl)]
      obtain ⟨s, hs⟩ : ∃ s, a.eval (.tmp 28) = s := ⟨_, rfl⟩
      have ho : Own W.heap.size n l w s := hs ▸ hR.1
      have e1 := tmp_is hs
      go_simp
      exact hK s w hS (Below.refl _ w) ho
    · intro a w K hS hB hR hK
      rw [if_pos (wanted_none rfl)]
      have ehR1 := tmp_is (hR.1)
      go_simp
      exact hK (.int .i64 0) w hS (Below.refl _ w) rfl
  case fin =>
    intro a w' HS ha hR
    obtain ⟨s, hs⟩ : ∃ s, a.eval (.tmp 6) = s := ⟨_, rfl⟩
    have h14 : Own W.heap.size n l w' s := hs ▸ deps_mem _ hR 14 (by decide)
    have h15 : a.eval (.tmp 7) = .int .i64 0 := deps_mem _ hR 15 (by decide)
    clear hR
    simp only [pin] at ha
    rw [ha]
    simp only [List.setIfInBounds_toArray, List.set_cons_zero, List.set_cons_succ, hs, h15]
    go_wp2
    go_ret2
    exact ⟨s, rfl, h14, HS⟩
end Go.Proofs.Ytpdlipkmojhnnaa
