/-
  A journal's keys, rising; how many there are.
-/
import Derived.Test.YtpdlipkmojhnnaaJournalVals
namespace Go.Proofs.Ytpdlipkmojhnnaa
open Go.RowKit Go.Maps Go.Shelf Go.Sort
set_option maxRecDepth 100000
/-- The keys that have a value, rising. -/
def keysNat (V : Int → Option (List UInt8)) : List Nat := (List.range 32).filter fun k => (V (k : Int)).isSome
def keysOf (V : Int → Option (List UInt8)) : List Int := (keysNat V).map fun k : Nat => (k : Int)
theorem keysOf_mem {V : Int → Option (List UInt8)} (hV : ∀ k, (V k).isSome = true → 0 ≤ k ∧ k < 32) (k : Int) : k ∈ keysOf V ↔ (V k).isSome = true := by
  unfold keysOf keysNat
  rw [List.mem_map]
  constructor
  · rintro ⟨n, hn, rfl⟩; exact (List.mem_filter.1 hn).2
  · intro h
    obtain ⟨h0, h1⟩ := hV k h
    have e : ((k.toNat : Nat) : Int) = k := by omega
    exact ⟨k.toNat, List.mem_filter.2 ⟨List.mem_range.2 (by omega), by rw [e]; exact h⟩, e⟩
theorem keysOf_lt (V : Int → Option (List UInt8)) : (keysOf V).Pairwise (fun a b => a < b) := by
  unfold keysOf keysNat
  exact List.pairwise_map.2 ((List.pairwise_lt_range.filter _).imp fun h => by omega)
theorem keysOf_length (V : Int → Option (List UInt8)) : (keysOf V).length ≤ 32 := by
  unfold keysOf keysNat
  rw [List.length_map]
  exact Nat.le_trans (List.length_filter_le _ _) (by simp)
theorem keysOf_perm {w : World} {lo : Nat} {pv : Option Nat} {D : DataW Value} {V : Int → Option (List UInt8)} (h : Vals w lo pv D V) : (keysOf V).Perm (intKeys D) := by
  have hm : ∀ k, k ∈ keysOf V ↔ Maps.has D (.int .i64 k) = true := fun k => by rw [keysOf_mem h.keys, h.has]
  have hnd : (keysOf V).Nodup := (keysOf_lt V).imp fun hlt e => by omega
  rcases h.src with ⟨_, rfl⟩ | ⟨b, n, _, ho⟩
  · have : keysOf V = [] := List.eq_nil_iff_forall_not_mem.2 fun k hk => by have := (hm k).1 hk; cases this
    rw [this]; exact List.Perm.refl _
  · obtain ⟨es, rfl, hko⟩ := ho.keysOf
    obtain ⟨es', e, hap, _⟩ := ho.entries law3
    cases e
    exact perm_intKeys hap (fun p hp => by
      obtain ⟨v, hv⟩ := hko p hp
      obtain ⟨x, _, hx, _⟩ := Maps.keyOf_i64 Try.underlying3 hv
      exact ⟨x, hx⟩) hnd hm
theorem vals_size {w : World} {lo : Nat} {pv : Option Nat} {D : DataW Value} {V : Int → Option (List UInt8)} (h : Vals w lo pv D V) : Maps.size D = (keysOf V).length := by
  rw [(keysOf_perm h).length_eq]
  rcases h.src with ⟨_, rfl⟩ | ⟨b, n, _, ho⟩
  · rfl
  · obtain ⟨es, rfl, _⟩ := ho.keysOf
    simp [Maps.size, intKeys]
theorem keysOf_sorted (V : Int → Option (List UInt8)) : (keysOf V).mergeSort (fun x y => decide (x ≤ y)) = keysOf V := by
  refine List.mergeSort_of_pairwise ((keysOf_lt V).imp fun h => ?_)
  exact decide_eq_true (by omega)
set_option maxRecDepth 100000 in
set_option maxHeartbeats 1000000 in
theorem rising_nil (w : World) : Calls Try.prog 34 #[.map none] w fun e w' => e = .returned (.slice none 0 0) ∧ Below w.heap.size w w' := by
  refine (callsIn_wide (n := 6)).1 ?_
  have hseq : SeqGives Fence.wide 2 Try.prog 63 #[.pointer (some ⟨w.heap.size, 0, none⟩)] encZ (fun ss : List Int => ss = []) 0 (w.alloc (.cells #[.map none] 57)) :=
    AnyZI.keys_gives_nil (ρ := Try.keysA_ren) { Try.keysA with } Fence.wide _ trivial rfl w.heap.size _ (by simp) (by simp)
  have cK : ∀ mb W, CallsIn Fence.wide 5 Try.prog 50 #[.map mb] W fun e w' => e = .returned (.func (.func 63) #[] #[.pointer (some ⟨W.heap.size, 0, none⟩)]) ∧ w' = W.alloc (.cells #[.map mb] 57) := fun mb W => AnyZI.keys_in Try.keysA Fence.wide 5 trivial rfl mb W
  have cS := AnyZI.sorted_in Try.sortedA Fence.wide 5 trivial trivial trivial trivial rfl (by omega) (sortsA _) (enters_of Try.func62 (by kernel_rfl) rfl) 63 #[.pointer (some ⟨w.heap.size, 0, none⟩)] trivial (enters_of Try.func63 (by kernel_rfl) rfl) _ 0 (Nat.zero_le _) (by omega) _ hseq
  change CallsIn _ _ Try.prog 49 _ _ _ at cS
  have hfK : Fence.wide.fn 50 := trivial
  have hfS : Fence.wide.fn 49 := trivial
  refine callsIn_of_wp Try.func34 rfl trivial ?_ rfl
  simp only [Try.ntmps34, List.size_toArray, List.length_cons, List.length_nil, Nat.reduceAdd, Nat.reduceSub, Array.replicate_succ, Array.replicate_zero, List.push_toArray, List.append_toArray, List.nil_append, List.cons_append]
  gi_wp2_with (first
    | (gi_at_call 50; refine (cK _ _).mono ?_; rintro e w' ⟨rfl, rfl⟩)
    | (gi_at_call 49; refine cS.mono ?_; rintro e w' ⟨v, ss, rfl, rfl, hrow, hnil, hb⟩; obtain rfl : v = .slice none 0 0 := hnil.2 rfl))
  go_ret
  exact ⟨rfl, ((Below.refl _ w).alloc (Nat.le_refl _) _).trans (hb.mono (by simp))⟩
/-- The keys of values, rising: none: no array. -/
theorem keys_f (lo : Nat) (pv : Option Nat) (D : DataW Value) (V : Int → Option (List UInt8)) (w : World) (h : Vals w lo pv D V) :
    Calls Try.prog 34 #[.map pv] w fun e w' => ∃ v, e = .returned v ∧ w'.ownsRow w.heap.size 3 1 v (keysOf V).length ((keysOf V).map fun k => .int .i64 k) ∧ (v = .slice none 0 0 ↔ keysOf V = []) ∧ Below w.heap.size w w' := by
  have hp := keysOf_perm h
  have hz := vals_size h
  have hl := keysOf_length V
  rcases h.src with ⟨rfl, rfl⟩ | ⟨b, n, rfl, ho⟩
  · have h0 : keysOf V = [] := List.length_eq_zero_iff.1 hz.symm
    refine (rising_nil w).mono ?_
    rintro e w' ⟨rfl, hb⟩
    exact ⟨_, rfl, by rw [h0]; exact World.ownsRow_nil _ _ _ _, by rw [h0]; simp, hb⟩
  · refine (rising_f b n D w ho (by rw [hz]; have : (32 : Nat) ≤ maxLen := by decide
                                    omega) (by omega)).mono ?_
    rintro e w' ⟨v, ss, rfl, hperm, hrow, hnil, hb⟩
    have hq : ss.Perm (keysOf V) := hperm.trans hp.symm
    have hs : ss.mergeSort (fun x y => decide (x ≤ y)) = keysOf V := (mergeSort_of_perm_i hq).trans (keysOf_sorted V)
    rw [hs, hq.length_eq] at hrow
    refine ⟨v, rfl, hrow, hnil.trans ⟨fun e => ?_, fun e => ?_⟩, hb⟩
    · rw [e] at hq; exact List.length_eq_zero_iff.1 hq.length_eq.symm
    · rw [e] at hq; exact List.length_eq_zero_iff.1 hq.length_eq
set_option maxRecDepth 100000 in
/-- Keys. -/
theorem jkeys_f (jb lo : Nat) (pv : Option Nat) (D : DataW Value) (V : Int → Option (List UInt8)) (w : World) (hv : w.cell? ⟨jb, 6, none⟩ = some (.map pv)) (h : Vals w lo pv D V) :
    Calls Try.prog 19 #[.pointer (some ⟨jb, 0, none⟩)] w fun e w' => ∃ v, e = .returned v ∧ w'.ownsRow w.heap.size 3 1 v (keysOf V).length ((keysOf V).map fun k => .int .i64 k) ∧ (v = .slice none 0 0 ↔ keysOf V = []) ∧ Below w.heap.size w w' := by
  have c := keys_f lo pv D V w h
  go_enter Try.func19, Try.ntmps19
  go_wp2_with fail
  refine c.mono ?_
  rintro e w' ⟨v, rfl, h1, h2, h3⟩
  go_wp2
  go_ret
  exact ⟨v, rfl, h1, h2, h3⟩
end Go.Proofs.Ytpdlipkmojhnnaa
