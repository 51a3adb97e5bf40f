/-
  How many bytes a group has in which just these values are.
-/
import Derived.Test.YtpdlipkmojhnnaaJournalSorted
namespace Go.Proofs.Ytpdlipkmojhnnaa
open Go.RowKit Go.Maps Go.Shelf Go.Sort
set_option maxRecDepth 100000
/-- The bytes of the records of those keys on a list of which p holds. -/
def sumOn (V : Int → Option (List UInt8)) (p : Int → Bool) : List Int → Nat
  | [] => 0
  | k :: r => (if p k then 7 + ((V k).getD []).length else 0) + sumOn V p r
/-- The bytes of a group with these values. -/
def sizeAll (V : Int → Option (List UInt8)) : Nat := 8 + sumOn V (fun _ => true) (keysOf V)
theorem sumOn_congr (V : Int → Option (List UInt8)) {p q : Int → Bool} : ∀ {l : List Int}, (∀ k, k ∈ l → p k = q k) → sumOn V p l = sumOn V q l
  | [], _ => rfl
  | k :: r, h => by
    unfold sumOn
    rw [h k (by simp), sumOn_congr V fun j hj => h j (by simp [hj])]
theorem sumOn_step (V : Int → Option (List UInt8)) {p : Int → Bool} {x : Int} (hx : p x = true) : ∀ {l : List Int}, l.Nodup → x ∈ l → sumOn V p l = (7 + ((V x).getD []).length) + sumOn V (fun k => p k && !decide (k = x)) l
  | [], _, hm => by cases hm
  | k :: r, hn, hm => by
    obtain ⟨h1, h2⟩ := List.nodup_cons.1 hn
    unfold sumOn
    by_cases e : k = x
    · subst e
      rw [sumOn_congr V (p := p) (q := fun j => p j && !decide (j = k)) (l := r) fun j hj => by
        have : j ≠ k := fun e => h1 (e ▸ hj)
        simp [this]]
      simp [hx]
    · have hr : x ∈ r := by
        rcases List.mem_cons.1 hm with h | h
        · exact absurd h.symm e
        · exact h
      rw [sumOn_step V hx h2 hr]
      simp [e]
      omega
theorem sumOn_none (V : Int → Option (List UInt8)) {p : Int → Bool} : ∀ {l : List Int}, (∀ k, p k = false) → sumOn V p l = 0
  | [], _ => rfl
  | k :: r, h => by unfold sumOn; rw [h k, sumOn_none V h]; rfl
theorem sumOn_le (V : Int → Option (List UInt8)) (hs : ∀ k l, V k = some l → l.length ≤ 250) (p : Int → Bool) : ∀ l : List Int, sumOn V p l ≤ l.length * 257
  | [] => by simp [sumOn]
  | k :: r => by
    have ih := sumOn_le V hs p r
    unfold sumOn
    have : ((V k).getD []).length ≤ 250 := by
      cases h : V k with
      | none => simp
      | some l => exact hs k l h
    rw [List.length_cons]
    split <;> omega
theorem keysOf_nodup (V : Int → Option (List UInt8)) : (keysOf V).Nodup := (keysOf_lt V).imp fun hlt e => by omega
theorem sizeof_nil (w : World) : Calls Try.prog 46 #[.map none] w fun e w' => e = .returned (.int .i64 8) ∧ Below w.heap.size w w' := by
  have hrg := run_range_nilMap (P := Try.prog) w 57 3 35 Try.underlying57
  have hnx : ∀ ty, (Instr.next (.pointer (some ⟨w.heap.size, 0, none⟩)) false ty).run Try.prog (w.alloc (.mapIter none 0 #[] 0)) = _ := fun ty => run_next_nilMap _ ty 0 0 #[]
  go_enter Try.func46, Try.ntmps46
  go_wp2
  refine wp_loop_rounds 1 ?_
  rw [rounds_succ]
  go_wp2
  go_ret
  exact ⟨rfl, (Below.refl _ _).alloc (Nat.le_refl _) _⟩
set_option maxRecDepth 100000 in
set_option maxHeartbeats 1000000 in
theorem sizeof_f (lo : Nat) (pv : Option Nat) (D : DataW Value) (V : Int → Option (List UInt8)) (w : World) (h : Vals w lo pv D V) :
    Calls Try.prog 46 #[.map pv] w fun e w' => e = .returned (.int .i64 (sizeAll V : Int)) ∧ Below w.heap.size w w' := by
  have hz := vals_size h
  have hl := keysOf_length V
  have hle := sumOn_le V h.short
  have hmem := keysOf_mem h.keys
  have hnd := keysOf_nodup V
  have hhas := h.has
  have hat0 := h.at_
  have hsh := h.short
  rcases h.src with ⟨rfl, rfl⟩ | ⟨b, n, rfl, ho⟩
  · have h0 : keysOf V = [] := List.length_eq_zero_iff.1 hz.symm
    refine (sizeof_nil w).mono ?_
    rintro e w' ⟨rfl, hb⟩
    refine ⟨?_, hb⟩
    unfold sizeAll; rw [h0]; rfl
  · clear h
    have hbl := ho.lt
    go_enter Try.func46, Try.ntmps46
    go_wp2_with (first
      | (at_range; refine wpList_range_own _ rfl _ 57 rfl 3 35 law3 Try.underlying57 _ b n _ rfl ho ?_; intro w0 hrg0 hg0 hs0)
      | go_in)
    go_frame
    go_loopw [3] (fun acc wr => ∃ (left : Lit → Bool) (cnt : Nat) (a : Nat), acc = .int .i64 (a : Int) ∧ wr.ranges Try.prog 3 hdr b w.heap.size n D left cnt ∧
        (∀ kl, left kl = true → Maps.has D kl = true) ∧ a + sumOn V (fun k => left (.int .i64 k)) (keysOf V) = sizeAll V ∧ Below w.heap.size w wr)
      (fun _ wr => wr.rangeLeft b w.heap.size)
    case atStart =>
      refine ⟨_, _, 8, rfl, hrg0, fun _ h => h, ?_, (Below.refl _ _).grown hg0 (Nat.le_refl _) (fun j hj => by cases hj)⟩
      unfold sizeAll
      rw [sumOn_congr V (q := fun _ => true) fun k hk => by rw [hhas]; exact (hmem k).1 hk]
    case round =>
      obtain ⟨left, cnt, a, rfl, hrg, hlf, hsum, bel⟩ := hrel
      go_wp2_with (first
        | (at_next; refine wpList_next_ranges _ rfl _ rfl 3 law3 hdr (Value.int .i64) id (fun key kl hkey => by obtain ⟨x, rfl, _⟩ := Maps.keyOf_int_inv Try.underlying3 hkey; exact ⟨x, rfl⟩) (fun v _ _ => ⟨v, rfl⟩) b w.heap.size n _ _ _ rfl hrg ?_ ?_)
        | go_in)
      · intro hc0 hl0
        go_wp2
        go_ret
        rw [sumOn_none V fun k => hl0 _, Nat.add_zero] at hsum
        rw [hsum]
        exact ⟨rfl, bel⟩
      · intro x c kl yd yp w1 cnt1 hkey hlx hv hat hrg1 hlt hg1 hs1 hen
        obtain ⟨x', ex, rfl, hwx⟩ := Maps.keyOf_int_inv Try.underlying3 hkey
        cases ex
        have hin : (V x).isSome = true := by rw [← hhas]; exact hlf _ hlx
        obtain ⟨l, hVl⟩ := Option.isSome_iff_exists.1 hin
        obtain ⟨A, cc, e1, _, _, _⟩ := hat0 x l hVl
        rw [hat] at e1
        cases hv
        cases e1
        have hshl := hsh x l hVl
        have hstep := sumOn_step V (p := fun k => left (.int .i64 k)) hlx hnd ((hmem x).2 hin)
        have htot := hle (fun _ => true) (keysOf V)
        have hsa : a + 7 + l.length ≤ 8232 + 7 := by
          unfold sizeAll at hsum
          rw [hstep, hVl] at hsum
          simp only [Option.getD_some] at hsum
          omega
        go_wp2
        go_roundw
        case rel =>
          refine ⟨_, cnt1, a + 7 + l.length, ?_, hrg1, fun kl hkl => hlf kl (Bool.and_eq_true_iff.1 hkl).1, ?_, bel.grown hg1 bel.size (fun j hj => by cases hj; exact Nat.le_refl _)⟩
          · go_num
          · rw [hstep, hVl] at hsum
            simp only [Option.getD_some] at hsum
            rw [sumOn_congr V (q := fun k => left (.int .i64 k) && !decide (k = x)) fun k _ => by simp [Lit.sameKey]]
            omega
        case measure => rw [hrg1.left_eq, hrg.left_eq]; exact hlt
end Go.Proofs.Ytpdlipkmojhnnaa
