/-
  Blocks: which sizes there are; a number as few bytes, by the document.
-/
/-
  Blocks as option's values, and back: the program's and the document's.
-/
/-
  A block's value, with its slice's room.
-/
/-
  The bytes of a body in a block: the program's and the document's.
-/
/-
  A body that is put together: the program's.
-/
/-
  A body that is put together: the next block.
-/
/-
  Bodies cut and put together: plain laws of lists and numbers.
-/
import Derived.Test.YtfbddldcbjhmiaaOptNum
import Derived.Test.YtfbddldcbjhmiaaOptRow
import Derived.BigQuiet
import Derived.Maps.AppendAt
namespace Go.Proofs.Ytfbddldcbjhmiaa
open Go.RowKit
set_option maxRecDepth 100000
set_option linter.unusedVariables false
def powZ (z : Int) : Int := if z = 16 then 0 else if z = 32 then 1 else if z = 64 then 2 else if z = 128 then 3 else if z = 256 then 4 else if z = 512 then 5 else if z = 1024 then 6 else -1
def powS (z : Int) : Int := if powZ z < 0 then 0 else powZ z
def powB (z : Int) : Bool := decide (0 ≤ powZ z)
theorem powZ_none {z : Int} (h : z ≠ 16 ∧ z ≠ 32 ∧ z ≠ 64 ∧ z ≠ 128 ∧ z ≠ 256 ∧ z ≠ 512 ∧ z ≠ 1024) : powZ z = -1 := by
  obtain ⟨h0, h1, h2, h3, h4, h5, h6⟩ := h
  unfold powZ
  rw [if_neg h0, if_neg h1, if_neg h2, if_neg h3, if_neg h4, if_neg h5, if_neg h6]
theorem powZ_cases (z : Int) : (∃ s : Nat, s < 7 ∧ z = 16 * 2 ^ s ∧ powZ z = s) ∨ (powZ z = -1 ∧ z ≠ 16 ∧ z ≠ 32 ∧ z ≠ 64 ∧ z ≠ 128 ∧ z ≠ 256 ∧ z ≠ 512 ∧ z ≠ 1024) := by
  by_cases h0 : z = 16
  · exact .inl ⟨0, by decide, h0, by rw [h0]; rfl⟩
  by_cases h1 : z = 32
  · exact .inl ⟨1, by decide, h1, by rw [h1]; rfl⟩
  by_cases h2 : z = 64
  · exact .inl ⟨2, by decide, h2, by rw [h2]; rfl⟩
  by_cases h3 : z = 128
  · exact .inl ⟨3, by decide, h3, by rw [h3]; rfl⟩
  by_cases h4 : z = 256
  · exact .inl ⟨4, by decide, h4, by rw [h4]; rfl⟩
  by_cases h5 : z = 512
  · exact .inl ⟨5, by decide, h5, by rw [h5]; rfl⟩
  by_cases h6 : z = 1024
  · exact .inl ⟨6, by decide, h6, by rw [h6]; rfl⟩
  exact .inr ⟨powZ_none ⟨h0, h1, h2, h3, h4, h5, h6⟩, h0, h1, h2, h3, h4, h5, h6⟩
theorem powZ_lo (z : Int) : -1 ≤ powZ z ∧ powZ z ≤ 6 := by
  rcases powZ_cases z with ⟨s, hs, _, e⟩ | ⟨e, _⟩ <;> omega
theorem powZ_le (z : Int) (h : 0 ≤ powZ z) : 16 ≤ z ∧ z ≤ 1024 := by
  rcases powZ_cases z with ⟨s, hs, rfl, e⟩ | ⟨e, _⟩
  · match s, hs with
    | 0, _ | 1, _ | 2, _ | 3, _ | 4, _ | 5, _ | 6, _ => decide
  · omega
/-- The first k sizes are others. -/
def Not2 (z : Int) (k : Nat) : Prop := ∀ j, j < k → z ≠ 16 * 2 ^ j
theorem Not2.next {z : Int} {k : Nat} (h : Not2 z k) (hz : z ≠ 16 * 2 ^ k) : Not2 z (k + 1) := fun j hj => by
  rcases Nat.lt_or_eq_of_le (Nat.lt_succ_iff.1 hj) with e | rfl
  · exact h j e
  · exact hz
theorem Not2.all {z : Int} (h : Not2 z 7) : powZ z = -1 := powZ_none ⟨h 0 (by decide), h 1 (by decide), h 2 (by decide), h 3 (by decide), h 4 (by decide), h 5 (by decide), h 6 (by decide)⟩
set_option maxHeartbeats 4000000 in
theorem power_f (z : Int) (w : World) : Calls Try.prog 32 #[.int .i64 z] w fun e w' => e = .returned (.tuple #[.int .i64 (powS z), .bool (powB z)]) ∧ w' = w := by
  go_enter Try.func32, Try.ntmps32
  go_wp2
  go_loop [4, 5] (fun _ i => ∃ k : Nat, k ≤ 7 ∧ i = .int .i64 k ∧ Aside (Not2 z k)) (fun _ i => 7 - (intOf i).toNat)
  case atStart => exact ⟨0, by omega, rfl, fun j hj => absurd hj (by omega)⟩
  case round =>
    obtain ⟨k, hk, rfl, hn⟩ := hrel
    rcases (by omega : k = 0 ∨ k = 1 ∨ k = 2 ∨ k = 3 ∨ k = 4 ∨ k = 5 ∨ k = 6 ∨ k = 7) with rfl | rfl | rfl | rfl | rfl | rfl | rfl | rfl
    · by_cases hz : z = 16
      · subst hz
        clear hn
        go_wp2
        go_ret2
        exact ⟨rfl, rfl⟩
      · have hz1 : ((16 : Int) == z) = false := beq_eq_false_iff_ne.2 (fun e => hz e.symm)
        have hn' : Aside (Not2 z 1) := hn.out.next hz
        clear hn hz
        go_wp2
        go_round
        case rel => exact ⟨1, by omega, rfl, hn'⟩
        case measure => simp [intOf]
    · by_cases hz : z = 32
      · subst hz
        clear hn
        go_wp2
        go_ret2
        exact ⟨rfl, rfl⟩
      · have hz1 : ((32 : Int) == z) = false := beq_eq_false_iff_ne.2 (fun e => hz e.symm)
        have hn' : Aside (Not2 z 2) := hn.out.next hz
        clear hn hz
        go_wp2
        go_round
        case rel => exact ⟨2, by omega, rfl, hn'⟩
        case measure => simp [intOf]
    · by_cases hz : z = 64
      · subst hz
        clear hn
        go_wp2
        go_ret2
        exact ⟨rfl, rfl⟩
      · have hz1 : ((64 : Int) == z) = false := beq_eq_false_iff_ne.2 (fun e => hz e.symm)
        have hn' : Aside (Not2 z 3) := hn.out.next hz
        clear hn hz
        go_wp2
        go_round
        case rel => exact ⟨3, by omega, rfl, hn'⟩
        case measure => simp [intOf]
    · by_cases hz : z = 128
      · subst hz
        clear hn
        go_wp2
        go_ret2
        exact ⟨rfl, rfl⟩
      · have hz1 : ((128 : Int) == z) = false := beq_eq_false_iff_ne.2 (fun e => hz e.symm)
        have hn' : Aside (Not2 z 4) := hn.out.next hz
        clear hn hz
        go_wp2
        go_round
        case rel => exact ⟨4, by omega, rfl, hn'⟩
        case measure => simp [intOf]
    · by_cases hz : z = 256
      · subst hz
        clear hn
        go_wp2
        go_ret2
        exact ⟨rfl, rfl⟩
      · have hz1 : ((256 : Int) == z) = false := beq_eq_false_iff_ne.2 (fun e => hz e.symm)
        have hn' : Aside (Not2 z 5) := hn.out.next hz
        clear hn hz
        go_wp2
        go_round
        case rel => exact ⟨5, by omega, rfl, hn'⟩
        case measure => simp [intOf]
    · by_cases hz : z = 512
      · subst hz
        clear hn
        go_wp2
        go_ret2
        exact ⟨rfl, rfl⟩
      · have hz1 : ((512 : Int) == z) = false := beq_eq_false_iff_ne.2 (fun e => hz e.symm)
        have hn' : Aside (Not2 z 6) := hn.out.next hz
        clear hn hz
        go_wp2
        go_round
        case rel => exact ⟨6, by omega, rfl, hn'⟩
        case measure => simp [intOf]
    · by_cases hz : z = 1024
      · subst hz
        clear hn
        go_wp2
        go_ret2
        exact ⟨rfl, rfl⟩
      · have hz1 : ((1024 : Int) == z) = false := beq_eq_false_iff_ne.2 (fun e => hz e.symm)
        have hn' : Aside (Not2 z 7) := hn.out.next hz
        clear hn hz
        go_wp2
        go_round
        case rel => exact ⟨7, by omega, rfl, hn'⟩
        case measure => simp [intOf]
    · have hp := hn.out.all
      have h1 : powS z = 0 := by unfold powS; rw [hp]; rfl
      have h2 : powB z = false := by unfold powB; rw [hp]; rfl
      have HH := Lib.hid (And.intro h1 h2)
      clear hn hp h1 h2
      go_wp2
      go_ret2
      exact ⟨by rw [HH.out.1, HH.out.2]; rfl, rfl⟩
def numB20 (n : Int) : Bool := decide (0 ≤ n ∧ n ≤ 1048575)
theorem isNum_f (n : Int) (w : World) : Calls Try.prog 33 #[.int .i64 n] w fun e w' => e = .returned (.bool (numB20 n)) ∧ w' = w := by
  by_cases h0 : 0 ≤ n
  · by_cases h1 : n ≤ 1048575
    · rw [show numB20 n = true by unfold numB20; exact decide_eq_true ⟨h0, h1⟩]
      go_enter Try.func33, Try.ntmps33
      go_wp2
      go_ret
      exact ⟨rfl, rfl⟩
    · rw [show numB20 n = false by unfold numB20; exact decide_eq_false (fun h => h1 h.2)]
      go_enter Try.func33, Try.ntmps33
      go_wp2
      go_ret
      exact ⟨rfl, rfl⟩
  · rw [show numB20 n = false by unfold numB20; exact decide_eq_false (fun h => h0 h.1)]
    go_enter Try.func33, Try.ntmps33
    go_wp2
    go_ret
    exact ⟨rfl, rfl⟩
def rightB (n z : Int) : Bool := powB z && numB20 n
theorem isRight_f (n z : Int) (w : World) : Calls Try.prog 30 #[.int .i64 n, .int .i64 z] w fun e w' => e = .returned (.bool (rightB n z)) ∧ w' = w := by
  have h1 := power_f z w
  have h2 := isNum_f n w
  generalize powS z = s at h1
  cases hp : powB z with
  | true =>
    rw [show rightB n z = numB20 n by unfold rightB; rw [hp]; rfl]
    rw [hp] at h1
    have HA := Lib.hid (And.intro h1 h2)
    clear h1 h2 hp
    go_enter Try.func30, Try.ntmps30
    go_wp2_with (first
      | (go_at_call 32; refine HA.out.1.mono ?_; rintro e w1 ⟨rfl, hw⟩; obtain rfl := hw.symm)
      | (go_at_call 33; refine HA.out.2.mono ?_; rintro e w1 ⟨rfl, hw⟩; obtain rfl := hw.symm))
    go_ret
    exact ⟨rfl, rfl⟩
  | false =>
    rw [show rightB n z = false by unfold rightB; rw [hp]; rfl]
    rw [hp] at h1
    have HA := Lib.hid (And.intro h1 h2)
    clear h1 h2 hp
    go_enter Try.func30, Try.ntmps30
    go_wp2_with (first
      | (go_at_call 32; refine HA.out.1.mono ?_; rintro e w1 ⟨rfl, hw⟩; obtain rfl := hw.symm)
      | (go_at_call 33; refine HA.out.2.mono ?_; rintro e w1 ⟨rfl, hw⟩; obtain rfl := hw.symm))
    go_ret
    exact ⟨rfl, rfl⟩
/-- Bytes and an error's number, in memory of the call's own. -/
def BRet (r : List UInt8 × Int) (w : World) (e : Ending) (w' : World) : Prop :=
  ∃ A n c, e = .returned (.tuple #[.slice A n c, .int .i64 r.2]) ∧ n ≤ c ∧ Hid (n = r.1.length) ∧ Bs w' w'.heap.size A n r.1 ∧ Below w.heap.size w w'
theorem BRet.nil {w w' : World} {er : Int} (hb : Below w.heap.size w w') : BRet ([], er) w (.returned (.tuple #[.slice none 0 0, .int .i64 er])) w' := ⟨none, 0, 0, rfl, Nat.le_refl _, rfl, Bs.empty _ _ _, hb⟩
theorem range_box (w : World) (cs : Array Value) (t : TypeId) {vs : List Value} (h : cs.toList = vs) : (w.alloc (.cells cs t)).rangeAt w.heap.size 0 vs := by
  intro j v hv
  rw [Nat.zero_add, cell_of_row _ _ _ _ _ _ (heap_alloc_new w _), ← hv, ← h, Array.getElem?_toList]
theorem results_ct {P : Program} {fn : Func} {p u : Tmp} {ty : TypeId} (h : fn.results = #[.cell p ty, .tmp u]) (tmps : Array Value) (w : World) (b o : Nat) (cs : List Value) (d : TypeDesc)
    (hp : tmps.getD p undef = .pointer (some ⟨b, o, none⟩)) (hc : w.rangeAt b o cs) (hu : P.underlying ty = some d) (hd : d.isRow = true) (hi : (P.info? ty).map (·.size) = some cs.length) :
    (results fn tmps).run P w = .ok (.tuple #[.agg cs.toArray, tmps.getD u undef]) w := by
  have hp' : tmps[p]?.getD undef = .pointer (some ⟨b, o, none⟩) := by simpa using hp
  simp [results, h, hp', asAddr, run_loadVar_mid w b o ty cs d hc hu hd hi]
theorem size_blk : (Try.prog.info? 32).map (·.size) = some 3 := by kernel_rfl
theorem one3 (a b : Int) (m : Bool) : ∀ v ∈ ([.int .i64 a, .bool m, .int .i64 b] : List Value), v.oneCell' = true := by
  intro v hv
  simp only [List.mem_cons, List.not_mem_nil, or_false] at hv
  rcases hv with rfl | rfl | rfl <;> rfl
theorem or4 (a x : Int) (a0 : 0 ≤ a) (ha : a < 281474976710656) (x0 : 0 ≤ x) (x1 : x < 16) : bits .or .i64 (a * 16) x = a * 16 + x := by
  obtain ⟨y, rfl⟩ := Int.eq_ofNat_of_zero_le a0
  obtain ⟨z, rfl⟩ := Int.eq_ofNat_of_zero_le x0
  show IntKind.i64.wrap ((BitVec.ofInt 64 ((y : Int) * 16) ||| BitVec.ofInt 64 (z : Int)).toNat : Int) = _
  rw [show (y : Int) * 16 = ((2 ^ 4 * y : Nat) : Int) by omega, BitVec.ofInt_natCast, BitVec.ofInt_natCast, BitVec.toNat_or, BitVec.toNat_ofNat, BitVec.toNat_ofNat, Nat.mod_eq_of_lt (by omega), Nat.mod_eq_of_lt (by omega), ← Nat.two_pow_add_eq_or_of_lt (by omega)]
  rw [IntWalk.i64_in _ (by omega)]; omega
theorem or8s : ∀ x : Nat, x < 8 → x ||| 8 = x + 8 := by decide
theorem or8 (a x : Int) (a0 : 0 ≤ a) (ha : a < 281474976710656) (x0 : 0 ≤ x) (x1 : x < 8) : bits .or .i64 (a * 16 + x) 8 = a * 16 + x + 8 := by
  obtain ⟨y, rfl⟩ := Int.eq_ofNat_of_zero_le a0
  obtain ⟨z, rfl⟩ := Int.eq_ofNat_of_zero_le x0
  have h : (2 ^ 4 * y + z) ||| 8 = 2 ^ 4 * y + (z + 8) := by
    rw [Nat.two_pow_add_eq_or_of_lt (i := 4) (b := z) (by omega), Nat.or_assoc, or8s z (by omega), ← Nat.two_pow_add_eq_or_of_lt (i := 4) (by omega)]
  show IntKind.i64.wrap ((BitVec.ofInt 64 ((y : Int) * 16 + (z : Int)) ||| BitVec.ofInt 64 ((8 : Nat) : Int)).toNat : Int) = _
  rw [show (y : Int) * 16 + (z : Int) = ((2 ^ 4 * y + z : Nat) : Int) by omega, BitVec.ofInt_natCast, BitVec.ofInt_natCast, BitVec.toNat_or, BitVec.toNat_ofNat, BitVec.toNat_ofNat, Nat.mod_eq_of_lt (by omega), Nat.mod_eq_of_lt (by omega), h]
  rw [IntWalk.i64_in _ (by omega)]; omega
theorem and7 (n : Nat) (hn : n < 281474976710656) : bits .and .i64 (n : Int) 7 = ((n % 8 : Nat) : Int) := by
  show IntKind.i64.wrap ((BitVec.ofInt 64 (n : Int) &&& BitVec.ofInt 64 ((7 : Nat) : Int)).toNat : Int) = _
  rw [BitVec.ofInt_natCast, BitVec.ofInt_natCast, BitVec.toNat_and, BitVec.toNat_ofNat, BitVec.toNat_ofNat, Nat.mod_eq_of_lt (by omega), Nat.mod_eq_of_lt (by omega), show n &&& 7 = n % 8 from Nat.and_two_pow_sub_one_eq_mod n 3]
  rw [IntWalk.i64_in _ (by omega)]
theorem and8 (n : Nat) (hn : n < 281474976710656) : bits .and .i64 (n : Int) 8 = ((n / 8 % 2 * 8 : Nat) : Int) := by
  show IntKind.i64.wrap ((BitVec.ofInt 64 (n : Int) &&& BitVec.ofInt 64 ((8 : Nat) : Int)).toNat : Int) = _
  have h : n &&& 8 = n / 8 % 2 * 8 := by
    have d : ∀ r : Nat, r < 16 → r &&& 8 = r / 8 % 2 * 8 := by decide
    rw [show n &&& 8 = (n &&& 15) &&& 8 by rw [Nat.and_assoc]; rfl, show n &&& 15 = n % 16 from Nat.and_two_pow_sub_one_eq_mod n 4, d _ (by omega)]
    omega
  rw [BitVec.ofInt_natCast, BitVec.ofInt_natCast, BitVec.toNat_and, BitVec.toNat_ofNat, BitVec.toNat_ofNat, Nat.mod_eq_of_lt (by omega), Nat.mod_eq_of_lt (by omega), h]
  rw [IntWalk.i64_in _ (by omega)]
def moreN (m : Bool) : Int := if m then 8 else 0
def blkW (n z : Int) (m : Bool) : List UInt8 × Int := if rightB n z then ((le (n * 16 + powZ z + moreN m).toNat).reverse, 0) else ([], 1)
theorem right_iff (n z : Int) : rightB n z = true ↔ 0 ≤ powZ z ∧ 0 ≤ n ∧ n ≤ 1048575 := by unfold rightB powB numB20; simp
set_option maxHeartbeats 2000000 in
theorem bwrite_f (n z : Int) (m : Bool) (w : World) : Calls Try.prog 8 #[.agg #[.int .i64 n, .bool m, .int .i64 z]] w (BRet (blkW n z m) w) := by
  have h1 := fun W => power_f z W
  have h2 := fun W => isNum_f n W
  by_cases hr : rightB n z = true
  · obtain ⟨hp, hn0, hn1⟩ := (right_iff n z).1 hr
    have hl := powZ_lo z
    obtain ⟨N, rfl⟩ := Int.eq_ofNat_of_zero_le hn0
    obtain ⟨s, hs⟩ := Int.eq_ofNat_of_zero_le hp
    have e1 : powS z = s := by unfold powS; rw [if_neg (by omega), hs]
    have e2 : powB z = true := by unfold powB; exact decide_eq_true hp
    have e3 : numB20 (N : Int) = true := by unfold numB20; exact decide_eq_true ⟨hn0, hn1⟩
    rw [e1, e2] at h1
    rw [e3] at h2
    have hs7 : s < 7 := by omega
    have ho := or4 (N : Int) (s : Int) (by omega) (by omega) (by omega) (by omega)
    have ho8 := or8 (N : Int) (s : Int) (by omega) (by omega) (by omega) (by omega)
    obtain ⟨V, hV⟩ : ∃ V : Nat, (N : Int) * 16 + (s : Int) = V := ⟨N * 16 + s, by omega⟩
    rw [hV] at ho ho8
    have ho8' : bits .or .i64 (V : Int) 8 = ((V + 8 : Nat) : Int) := by omega
    have hVm : (V : Int) ≤ 17000000 := by omega
    have hW : blkW N z m = ((le (V + (moreN m).toNat)).reverse, 0) := by
      unfold blkW
      rw [if_pos hr, hs, hV]
      cases m with
      | true => rw [show ((V : Int) + moreN true).toNat = V + (moreN true).toNat by simp [moreN]; omega]
      | false => rw [show ((V : Int) + moreN false).toNat = V + (moreN false).toNat by simp [moreN]]
    rw [hW]
    have hu := fun (K : Nat) (W : World) (hk : (K : Int) ≤ 20000000) => uint_f (K : Int) W (by omega)
    obtain ⟨V8, hV8⟩ : ∃ V8, V + 8 = V8 := ⟨_, rfl⟩
    rw [hV8] at ho8'
    have hV8m : (V8 : Int) ≤ 20000000 := by omega
    have hN : (N : Int) ≤ 1048575 := hn1
    have HA := Lib.hid (And.intro h1 (And.intro h2 (And.intro hu hV8)))
    clear h1 h2 hu hr hp hl hs e1 e2 e3 ho8 hW hn1 hs7 hV hV8
    cases m with
    | true =>
      go_enter Try.func8, Try.ntmps8
      go_wp2_with (first
        | (go_at_call 32; refine (HA.out.1 _).mono ?_; rintro e w1 ⟨rfl, hw⟩; obtain rfl := hw.symm)
        | (go_at_call 33; refine (HA.out.2.1 _).mono ?_; rintro e w1 ⟨rfl, hw⟩; obtain rfl := hw.symm)
        | (go_at_call 34; refine (HA.out.2.2.1 V8 _ (by omega)).mono ?_; intro e w2 h2; obtain ⟨A2, n2, c2, rfl, hc2, hn2, hb2, b2⟩ := h2.slice_; have H2 := Lib.hid (And.intro hc2 (And.intro hn2 (And.intro hb2 b2))); clear h2 hc2 hn2 hb2 b2))
      go_ret2
      rw [Int.toNat_natCast] at H2
      rw [show V + (moreN true).toNat = V8 from HA.out.2.2.2]
      exact ⟨A2, n2, c2, rfl, H2.out.1, H2.out.2.1, H2.out.2.2.1, (alloc_below w _).trans (H2.out.2.2.2.mono (by rw [alloc_size]; omega))⟩
    | false =>
      go_enter Try.func8, Try.ntmps8
      go_wp2_with (first
        | (go_at_call 32; refine (HA.out.1 _).mono ?_; rintro e w1 ⟨rfl, hw⟩; obtain rfl := hw.symm)
        | (go_at_call 33; refine (HA.out.2.1 _).mono ?_; rintro e w1 ⟨rfl, hw⟩; obtain rfl := hw.symm)
        | (go_at_call 34; refine (HA.out.2.2.1 V _ (by omega)).mono ?_; intro e w2 h2; obtain ⟨A2, n2, c2, rfl, hc2, hn2, hb2, b2⟩ := h2.slice_; have H2 := Lib.hid (And.intro hc2 (And.intro hn2 (And.intro hb2 b2))); clear h2 hc2 hn2 hb2 b2))
      go_ret2
      rw [Int.toNat_natCast] at H2
      rw [show V + (moreN false).toNat = V from rfl]
      exact ⟨A2, n2, c2, rfl, H2.out.1, H2.out.2.1, H2.out.2.2.1, (alloc_below w _).trans (H2.out.2.2.2.mono (by rw [alloc_size]; omega))⟩
  · have hW : blkW n z m = ([], 1) := by unfold blkW; rw [if_neg hr]
    rw [hW]
    have hf : (powB z = false) ∨ (powB z = true ∧ numB20 n = false) := by
      unfold rightB at hr
      cases hb : powB z with
      | false => exact .inl rfl
      | true => right; rw [hb] at hr; cases hq : numB20 n with
        | false => exact ⟨rfl, rfl⟩
        | true => rw [hq] at hr; exact absurd rfl hr
    generalize powS z = s at h1
    rcases hf with e | ⟨e, e2⟩
    · rw [e] at h1
      have HA := Lib.hid (And.intro h1 h2)
      clear h1 h2 hr e hW
      go_enter Try.func8, Try.ntmps8
      go_wp2_with (first
        | (go_at_call 32; refine (HA.out.1 _).mono ?_; rintro e w1 ⟨rfl, hw⟩; obtain rfl := hw.symm)
        | (go_at_call 33; refine (HA.out.2 _).mono ?_; rintro e w1 ⟨rfl, hw⟩; obtain rfl := hw.symm))
      go_ret2
      exact BRet.nil (alloc_below _ _)
    · rw [e] at h1
      rw [e2] at h2
      have HA := Lib.hid (And.intro h1 h2)
      clear h1 h2 hr e e2 hW
      go_enter Try.func8, Try.ntmps8
      go_wp2_with (first
        | (go_at_call 32; refine (HA.out.1 _).mono ?_; rintro e w1 ⟨rfl, hw⟩; obtain rfl := hw.symm)
        | (go_at_call 33; refine (HA.out.2 _).mono ?_; rintro e w1 ⟨rfl, hw⟩; obtain rfl := hw.symm))
      go_ret2
      exact BRet.nil (alloc_below _ _)
/-- A block: its number, whether more follow, its size; the error. -/
def blkR (l : List UInt8) : (Int × Bool × Int) × Int := if 3 < l.length then ((0, false, 0), 20) else if numOf l % 8 = 7 then ((0, false, 0), 20) else ((((numOf l / 16 : Nat) : Int), decide (numOf l / 8 % 2 = 1), ((16 * 2 ^ (numOf l % 8) : Nat) : Int)), 0)
def BRRet (r : (Int × Bool × Int) × Int) (w : World) (e : Ending) (w' : World) : Prop :=
  e = .returned (.tuple #[.agg #[.int .i64 r.1.1, .bool r.1.2.1, .int .i64 r.1.2.2], .int .i64 r.2]) ∧ Below w.heap.size w w'
/-- The cell of what is returned. -/
structure Z3 (w W : World) (t : TypeId) : Prop where
  there : W.there w.heap.size 0 3
  bel : Below w.heap.size w W
theorem Z3.new_ (w : World) (t : TypeId) (cs : Array Value) (h : cs.size = 3) : Z3 w (w.alloc (.cells cs t)) t := ⟨there_new w _ _ h, alloc_below w _⟩
theorem Z3.stored {w W : World} {t : TypeId} (h : Z3 w W t) (vs : List Value) (hl : vs.length = 3) : (W.setCells w.heap.size 0 vs).rangeAt w.heap.size 0 vs ∧ Below w.heap.size w (W.setCells w.heap.size 0 vs) :=
  ⟨World.rangeAt_setCells_same _ _ _ _ (by rw [hl]; exact h.there), below_setCells h.bel (Nat.le_refl _) _ _⟩
set_option maxHeartbeats 4000000 in
theorem bread_f (A : Option Addr) (n c : Nat) (l : List UInt8) (w : World) (B : Nat) (hbs : Bs w B A n l) (hB : B ≤ w.heap.size) :
    Calls Try.prog 13 #[.slice A n c] w (BRRet (blkR l) w) := by
  have hl := hbs.len
  have HZ := Lib.hid (Z3.new_ w 32 #[.int .i64 0, .bool false, .int .i64 0] rfl)
  by_cases h3 : (3 : Int) < n
  · have hr : blkR l = ((0, false, 0), 20) := by unfold blkR; rw [if_pos (by omega)]
    rw [hr]
    clear hbs hl hr
    go_enter Try.func13, Try.ntmps13
    go_wp2
    have hst := HZ.out.stored [.int .i64 0, .bool false, .int .i64 0] rfl
    refine bodyPost_ret (results_ct rfl _ _ w.heap.size 0 [.int .i64 0, .bool false, .int .i64 0] _ rfl (by first | exact hst.1 | exact range_box w _ _ rfl) Try.underlying32 rfl size_blk) rfl ?_
    exact ⟨rfl, by first | exact hst.2 | exact alloc_below _ _⟩
  · have hnum := fun W (b : Below w.heap.size w W) => number_f A n c l W B (hbs.below' b hB)
    have hlt := numOf_lt l
    have hp := Nat.pow_le_pow_right (n := 256) (by decide) (show l.length ≤ 3 by omega)
    have hk : (256 : Nat) ^ 3 = 16777216 := by decide
    have hN : numOf l < 16777216 := by omega
    have hnb : numB l = ((numOf l : Int), true) := by unfold numB; rw [if_neg (by omega)]
    rw [hnb] at hnum
    have hr : blkR l = if numOf l % 8 = 7 then ((0, false, 0), 20) else ((((numOf l / 16 : Nat) : Int), decide (numOf l / 8 % 2 = 1), ((16 * 2 ^ (numOf l % 8) : Nat) : Int)), 0) := by unfold blkR; rw [if_neg (by omega)]
    rw [hr]
    generalize numOf l = N at *
    have a7 := and7 N (by omega)
    have a8 := and8 N (by omega)
    have hd8 : (N / 8 % 2 = 1 ∧ bits .and .i64 (N : Int) 8 = 8) ∨ (N / 8 % 2 = 0 ∧ bits .and .i64 (N : Int) 8 = 0) := by
      rcases Nat.mod_two_eq_zero_or_one (N / 8) with e | e
      · exact .inr ⟨e, by rw [a8, e]; rfl⟩
      · exact .inl ⟨e, by rw [a8, e]; rfl⟩
    have hNI : (N : Int) < 16777216 := by omega
    have HA := Lib.hid hnum
    clear hnum hlt hp hk hN hnb hr a8 hbs hl
    have h8 : N % 8 < 8 := Nat.mod_lt _ (by decide)
    obtain ⟨s, hs⟩ : ∃ s, N % 8 = s := ⟨_, rfl⟩
    rw [hs] at a7 h8 ⊢
    clear hs
    rcases (by omega : s = 0 ∨ s = 1 ∨ s = 2 ∨ s = 3 ∨ s = 4 ∨ s = 5 ∨ s = 6 ∨ s = 7) with rfl | rfl | rfl | rfl | rfl | rfl | rfl | rfl
    · rw [if_neg (by decide)]
      rcases hd8 with ⟨e8, a8⟩ | ⟨e8, a8⟩
      · rw [show decide (N / 8 % 2 = 1) = true by rw [e8]; rfl]
        clear e8
        go_enter Try.func13, Try.ntmps13
        go_wp2_with (go_at_call 46; refine (HA.out _ (alloc_below _ _)).mono ?_; rintro e w1 ⟨rfl, hw⟩; obtain rfl := hw.symm)
        refine bodyPost_ret (results_ct rfl _ _ w.heap.size 0 [.int .i64 ((N / 16 : Nat) : Int), .bool true, .int .i64 16] _ rfl (by first | exact range_box w _ _ rfl | exact (HZ.out.stored _ rfl).1) Try.underlying32 rfl size_blk) rfl ?_
        exact ⟨rfl, by first | exact alloc_below _ _ | exact (HZ.out.stored _ rfl).2⟩
      · rw [show decide (N / 8 % 2 = 1) = false by rw [e8]; rfl]
        clear e8
        go_enter Try.func13, Try.ntmps13
        go_wp2_with (go_at_call 46; refine (HA.out _ (alloc_below _ _)).mono ?_; rintro e w1 ⟨rfl, hw⟩; obtain rfl := hw.symm)
        refine bodyPost_ret (results_ct rfl _ _ w.heap.size 0 [.int .i64 ((N / 16 : Nat) : Int), .bool false, .int .i64 16] _ rfl (by first | exact range_box w _ _ rfl | exact (HZ.out.stored _ rfl).1) Try.underlying32 rfl size_blk) rfl ?_
        exact ⟨rfl, by first | exact alloc_below _ _ | exact (HZ.out.stored _ rfl).2⟩
    · rw [if_neg (by decide)]
      rcases hd8 with ⟨e8, a8⟩ | ⟨e8, a8⟩
      · rw [show decide (N / 8 % 2 = 1) = true by rw [e8]; rfl]
        clear e8
        go_enter Try.func13, Try.ntmps13
        go_wp2_with (go_at_call 46; refine (HA.out _ (alloc_below _ _)).mono ?_; rintro e w1 ⟨rfl, hw⟩; obtain rfl := hw.symm)
        refine bodyPost_ret (results_ct rfl _ _ w.heap.size 0 [.int .i64 ((N / 16 : Nat) : Int), .bool true, .int .i64 32] _ rfl (by first | exact range_box w _ _ rfl | exact (HZ.out.stored _ rfl).1) Try.underlying32 rfl size_blk) rfl ?_
        exact ⟨rfl, by first | exact alloc_below _ _ | exact (HZ.out.stored _ rfl).2⟩
      · rw [show decide (N / 8 % 2 = 1) = false by rw [e8]; rfl]
        clear e8
        go_enter Try.func13, Try.ntmps13
        go_wp2_with (go_at_call 46; refine (HA.out _ (alloc_below _ _)).mono ?_; rintro e w1 ⟨rfl, hw⟩; obtain rfl := hw.symm)
        refine bodyPost_ret (results_ct rfl _ _ w.heap.size 0 [.int .i64 ((N / 16 : Nat) : Int), .bool false, .int .i64 32] _ rfl (by first | exact range_box w _ _ rfl | exact (HZ.out.stored _ rfl).1) Try.underlying32 rfl size_blk) rfl ?_
        exact ⟨rfl, by first | exact alloc_below _ _ | exact (HZ.out.stored _ rfl).2⟩
    · rw [if_neg (by decide)]
      rcases hd8 with ⟨e8, a8⟩ | ⟨e8, a8⟩
      · rw [show decide (N / 8 % 2 = 1) = true by rw [e8]; rfl]
        clear e8
        go_enter Try.func13, Try.ntmps13
        go_wp2_with (go_at_call 46; refine (HA.out _ (alloc_below _ _)).mono ?_; rintro e w1 ⟨rfl, hw⟩; obtain rfl := hw.symm)
        refine bodyPost_ret (results_ct rfl _ _ w.heap.size 0 [.int .i64 ((N / 16 : Nat) : Int), .bool true, .int .i64 64] _ rfl (by first | exact range_box w _ _ rfl | exact (HZ.out.stored _ rfl).1) Try.underlying32 rfl size_blk) rfl ?_
        exact ⟨rfl, by first | exact alloc_below _ _ | exact (HZ.out.stored _ rfl).2⟩
      · rw [show decide (N / 8 % 2 = 1) = false by rw [e8]; rfl]
        clear e8
        go_enter Try.func13, Try.ntmps13
        go_wp2_with (go_at_call 46; refine (HA.out _ (alloc_below _ _)).mono ?_; rintro e w1 ⟨rfl, hw⟩; obtain rfl := hw.symm)
        refine bodyPost_ret (results_ct rfl _ _ w.heap.size 0 [.int .i64 ((N / 16 : Nat) : Int), .bool false, .int .i64 64] _ rfl (by first | exact range_box w _ _ rfl | exact (HZ.out.stored _ rfl).1) Try.underlying32 rfl size_blk) rfl ?_
        exact ⟨rfl, by first | exact alloc_below _ _ | exact (HZ.out.stored _ rfl).2⟩
    · rw [if_neg (by decide)]
      rcases hd8 with ⟨e8, a8⟩ | ⟨e8, a8⟩
      · rw [show decide (N / 8 % 2 = 1) = true by rw [e8]; rfl]
        clear e8
        go_enter Try.func13, Try.ntmps13
        go_wp2_with (go_at_call 46; refine (HA.out _ (alloc_below _ _)).mono ?_; rintro e w1 ⟨rfl, hw⟩; obtain rfl := hw.symm)
        refine bodyPost_ret (results_ct rfl _ _ w.heap.size 0 [.int .i64 ((N / 16 : Nat) : Int), .bool true, .int .i64 128] _ rfl (by first | exact range_box w _ _ rfl | exact (HZ.out.stored _ rfl).1) Try.underlying32 rfl size_blk) rfl ?_
        exact ⟨rfl, by first | exact alloc_below _ _ | exact (HZ.out.stored _ rfl).2⟩
      · rw [show decide (N / 8 % 2 = 1) = false by rw [e8]; rfl]
        clear e8
        go_enter Try.func13, Try.ntmps13
        go_wp2_with (go_at_call 46; refine (HA.out _ (alloc_below _ _)).mono ?_; rintro e w1 ⟨rfl, hw⟩; obtain rfl := hw.symm)
        refine bodyPost_ret (results_ct rfl _ _ w.heap.size 0 [.int .i64 ((N / 16 : Nat) : Int), .bool false, .int .i64 128] _ rfl (by first | exact range_box w _ _ rfl | exact (HZ.out.stored _ rfl).1) Try.underlying32 rfl size_blk) rfl ?_
        exact ⟨rfl, by first | exact alloc_below _ _ | exact (HZ.out.stored _ rfl).2⟩
    · rw [if_neg (by decide)]
      rcases hd8 with ⟨e8, a8⟩ | ⟨e8, a8⟩
      · rw [show decide (N / 8 % 2 = 1) = true by rw [e8]; rfl]
        clear e8
        go_enter Try.func13, Try.ntmps13
        go_wp2_with (go_at_call 46; refine (HA.out _ (alloc_below _ _)).mono ?_; rintro e w1 ⟨rfl, hw⟩; obtain rfl := hw.symm)
        refine bodyPost_ret (results_ct rfl _ _ w.heap.size 0 [.int .i64 ((N / 16 : Nat) : Int), .bool true, .int .i64 256] _ rfl (by first | exact range_box w _ _ rfl | exact (HZ.out.stored _ rfl).1) Try.underlying32 rfl size_blk) rfl ?_
        exact ⟨rfl, by first | exact alloc_below _ _ | exact (HZ.out.stored _ rfl).2⟩
      · rw [show decide (N / 8 % 2 = 1) = false by rw [e8]; rfl]
        clear e8
        go_enter Try.func13, Try.ntmps13
        go_wp2_with (go_at_call 46; refine (HA.out _ (alloc_below _ _)).mono ?_; rintro e w1 ⟨rfl, hw⟩; obtain rfl := hw.symm)
        refine bodyPost_ret (results_ct rfl _ _ w.heap.size 0 [.int .i64 ((N / 16 : Nat) : Int), .bool false, .int .i64 256] _ rfl (by first | exact range_box w _ _ rfl | exact (HZ.out.stored _ rfl).1) Try.underlying32 rfl size_blk) rfl ?_
        exact ⟨rfl, by first | exact alloc_below _ _ | exact (HZ.out.stored _ rfl).2⟩
    · rw [if_neg (by decide)]
      rcases hd8 with ⟨e8, a8⟩ | ⟨e8, a8⟩
      · rw [show decide (N / 8 % 2 = 1) = true by rw [e8]; rfl]
        clear e8
        go_enter Try.func13, Try.ntmps13
        go_wp2_with (go_at_call 46; refine (HA.out _ (alloc_below _ _)).mono ?_; rintro e w1 ⟨rfl, hw⟩; obtain rfl := hw.symm)
        refine bodyPost_ret (results_ct rfl _ _ w.heap.size 0 [.int .i64 ((N / 16 : Nat) : Int), .bool true, .int .i64 512] _ rfl (by first | exact range_box w _ _ rfl | exact (HZ.out.stored _ rfl).1) Try.underlying32 rfl size_blk) rfl ?_
        exact ⟨rfl, by first | exact alloc_below _ _ | exact (HZ.out.stored _ rfl).2⟩
      · rw [show decide (N / 8 % 2 = 1) = false by rw [e8]; rfl]
        clear e8
        go_enter Try.func13, Try.ntmps13
        go_wp2_with (go_at_call 46; refine (HA.out _ (alloc_below _ _)).mono ?_; rintro e w1 ⟨rfl, hw⟩; obtain rfl := hw.symm)
        refine bodyPost_ret (results_ct rfl _ _ w.heap.size 0 [.int .i64 ((N / 16 : Nat) : Int), .bool false, .int .i64 512] _ rfl (by first | exact range_box w _ _ rfl | exact (HZ.out.stored _ rfl).1) Try.underlying32 rfl size_blk) rfl ?_
        exact ⟨rfl, by first | exact alloc_below _ _ | exact (HZ.out.stored _ rfl).2⟩
    · rw [if_neg (by decide)]
      rcases hd8 with ⟨e8, a8⟩ | ⟨e8, a8⟩
      · rw [show decide (N / 8 % 2 = 1) = true by rw [e8]; rfl]
        clear e8
        go_enter Try.func13, Try.ntmps13
        go_wp2_with (go_at_call 46; refine (HA.out _ (alloc_below _ _)).mono ?_; rintro e w1 ⟨rfl, hw⟩; obtain rfl := hw.symm)
        refine bodyPost_ret (results_ct rfl _ _ w.heap.size 0 [.int .i64 ((N / 16 : Nat) : Int), .bool true, .int .i64 1024] _ rfl (by first | exact range_box w _ _ rfl | exact (HZ.out.stored _ rfl).1) Try.underlying32 rfl size_blk) rfl ?_
        exact ⟨rfl, by first | exact alloc_below _ _ | exact (HZ.out.stored _ rfl).2⟩
      · rw [show decide (N / 8 % 2 = 1) = false by rw [e8]; rfl]
        clear e8
        go_enter Try.func13, Try.ntmps13
        go_wp2_with (go_at_call 46; refine (HA.out _ (alloc_below _ _)).mono ?_; rintro e w1 ⟨rfl, hw⟩; obtain rfl := hw.symm)
        refine bodyPost_ret (results_ct rfl _ _ w.heap.size 0 [.int .i64 ((N / 16 : Nat) : Int), .bool false, .int .i64 1024] _ rfl (by first | exact range_box w _ _ rfl | exact (HZ.out.stored _ rfl).1) Try.underlying32 rfl size_blk) rfl ?_
        exact ⟨rfl, by first | exact alloc_below _ _ | exact (HZ.out.stored _ rfl).2⟩
    · rw [if_pos rfl]
      clear hd8
      go_enter Try.func13, Try.ntmps13
      go_wp2_with (go_at_call 46; refine (HA.out _ (alloc_below _ _)).mono ?_; rintro e w1 ⟨rfl, hw⟩; obtain rfl := hw.symm)
      refine bodyPost_ret (results_ct rfl _ _ w.heap.size 0 [.int .i64 0, .bool false, .int .i64 0] _ rfl (by first | exact range_box w _ _ rfl | exact (HZ.out.stored _ rfl).1) Try.underlying32 rfl size_blk) rfl ?_
      exact ⟨rfl, by first | exact alloc_below _ _ | exact (HZ.out.stored _ rfl).2⟩
def BRetC (r : List UInt8 × Int) (w : World) (e : Ending) (w' : World) : Prop :=
  ∃ A n c, e = .returned (.tuple #[.slice A n c, .int .i64 r.2]) ∧ (n ≤ c ∧ c ≤ maxLen) ∧ Hid (n = r.1.length) ∧ Bs w' w'.heap.size A n r.1 ∧ Below w.heap.size w w'
theorem BRetC.nil {w w' : World} {er : Int} (hb : Below w.heap.size w w') : BRetC ([], er) w (.returned (.tuple #[.slice none 0 0, .int .i64 er])) w' := ⟨none, 0, 0, rfl, ⟨Nat.le_refl _, Nat.zero_le _⟩, rfl, Bs.empty _ _ _, hb⟩
theorem RetOwn.slicec_ {e5 : TypeId} {l : List UInt8} {w w' : World} {e : Ending} (h : RetOwn e5 l w e w') :
    ∃ A N c, e = .returned (.slice A N c) ∧ (N ≤ c ∧ c ≤ maxLen) ∧ Hid (N = l.length) ∧ Bs w' w'.heap.size A N l ∧ Below w.heap.size w w' := by
  obtain ⟨v, rfl, h1, h2⟩ := h
  obtain ⟨A, c, rfl, hc, hb⟩ := Bs.of_own h1
  exact ⟨A, _, c, rfl, ⟨hc, row_cap h1⟩, rfl, hb, h2⟩
set_option maxHeartbeats 2000000 in
theorem bwritec_f (n z : Int) (m : Bool) (w : World) : Calls Try.prog 8 #[.agg #[.int .i64 n, .bool m, .int .i64 z]] w (BRetC (blkW n z m) w) := by
  have h1 := fun W => power_f z W
  have h2 := fun W => isNum_f n W
  by_cases hr : rightB n z = true
  · obtain ⟨hp, hn0, hn1⟩ := (right_iff n z).1 hr
    have hl := powZ_lo z
    obtain ⟨N, rfl⟩ := Int.eq_ofNat_of_zero_le hn0
    obtain ⟨s, hs⟩ := Int.eq_ofNat_of_zero_le hp
    have e1 : powS z = s := by unfold powS; rw [if_neg (by omega), hs]
    have e2 : powB z = true := by unfold powB; exact decide_eq_true hp
    have e3 : numB20 (N : Int) = true := by unfold numB20; exact decide_eq_true ⟨hn0, hn1⟩
    rw [e1, e2] at h1
    rw [e3] at h2
    have hs7 : s < 7 := by omega
    have ho := or4 (N : Int) (s : Int) (by omega) (by omega) (by omega) (by omega)
    have ho8 := or8 (N : Int) (s : Int) (by omega) (by omega) (by omega) (by omega)
    obtain ⟨V, hV⟩ : ∃ V : Nat, (N : Int) * 16 + (s : Int) = V := ⟨N * 16 + s, by omega⟩
    rw [hV] at ho ho8
    have ho8' : bits .or .i64 (V : Int) 8 = ((V + 8 : Nat) : Int) := by omega
    have hVm : (V : Int) ≤ 17000000 := by omega
    have hW : blkW N z m = ((le (V + (moreN m).toNat)).reverse, 0) := by
      unfold blkW
      rw [if_pos hr, hs, hV]
      cases m with
      | true => rw [show ((V : Int) + moreN true).toNat = V + (moreN true).toNat by simp [moreN]; omega]
      | false => rw [show ((V : Int) + moreN false).toNat = V + (moreN false).toNat by simp [moreN]]
    rw [hW]
    have hu := fun (K : Nat) (W : World) (hk : (K : Int) ≤ 20000000) => uint_f (K : Int) W (by omega)
    obtain ⟨V8, hV8⟩ : ∃ V8, V + 8 = V8 := ⟨_, rfl⟩
    rw [hV8] at ho8'
    have hV8m : (V8 : Int) ≤ 20000000 := by omega
    have hN : (N : Int) ≤ 1048575 := hn1
    have HA := Lib.hid (And.intro h1 (And.intro h2 (And.intro hu hV8)))
    clear h1 h2 hu hr hp hl hs e1 e2 e3 ho8 hW hn1 hs7 hV hV8
    cases m with
    | true =>
      go_enter Try.func8, Try.ntmps8
      go_wp2_with (first
        | (go_at_call 32; refine (HA.out.1 _).mono ?_; rintro e w1 ⟨rfl, hw⟩; obtain rfl := hw.symm)
        | (go_at_call 33; refine (HA.out.2.1 _).mono ?_; rintro e w1 ⟨rfl, hw⟩; obtain rfl := hw.symm)
        | (go_at_call 34; refine (HA.out.2.2.1 V8 _ (by omega)).mono ?_; intro e w2 h2; obtain ⟨A2, n2, c2, rfl, hc2, hn2, hb2, b2⟩ := h2.slicec_; have H2 := Lib.hid (And.intro hc2 (And.intro hn2 (And.intro hb2 b2))); clear h2 hc2 hn2 hb2 b2))
      go_ret2
      rw [Int.toNat_natCast] at H2
      rw [show V + (moreN true).toNat = V8 from HA.out.2.2.2]
      exact ⟨A2, n2, c2, rfl, H2.out.1, H2.out.2.1, H2.out.2.2.1, (alloc_below w _).trans (H2.out.2.2.2.mono (by rw [alloc_size]; omega))⟩
    | false =>
      go_enter Try.func8, Try.ntmps8
      go_wp2_with (first
        | (go_at_call 32; refine (HA.out.1 _).mono ?_; rintro e w1 ⟨rfl, hw⟩; obtain rfl := hw.symm)
        | (go_at_call 33; refine (HA.out.2.1 _).mono ?_; rintro e w1 ⟨rfl, hw⟩; obtain rfl := hw.symm)
        | (go_at_call 34; refine (HA.out.2.2.1 V _ (by omega)).mono ?_; intro e w2 h2; obtain ⟨A2, n2, c2, rfl, hc2, hn2, hb2, b2⟩ := h2.slicec_; have H2 := Lib.hid (And.intro hc2 (And.intro hn2 (And.intro hb2 b2))); clear h2 hc2 hn2 hb2 b2))
      go_ret2
      rw [Int.toNat_natCast] at H2
      rw [show V + (moreN false).toNat = V from rfl]
      exact ⟨A2, n2, c2, rfl, H2.out.1, H2.out.2.1, H2.out.2.2.1, (alloc_below w _).trans (H2.out.2.2.2.mono (by rw [alloc_size]; omega))⟩
  · have hW : blkW n z m = ([], 1) := by unfold blkW; rw [if_neg hr]
    rw [hW]
    have hf : (powB z = false) ∨ (powB z = true ∧ numB20 n = false) := by
      unfold rightB at hr
      cases hb : powB z with
      | false => exact .inl rfl
      | true => right; rw [hb] at hr; cases hq : numB20 n with
        | false => exact ⟨rfl, rfl⟩
        | true => rw [hq] at hr; exact absurd rfl hr
    generalize powS z = s at h1
    rcases hf with e | ⟨e, e2⟩
    · rw [e] at h1
      have HA := Lib.hid (And.intro h1 h2)
      clear h1 h2 hr e hW
      go_enter Try.func8, Try.ntmps8
      go_wp2_with (first
        | (go_at_call 32; refine (HA.out.1 _).mono ?_; rintro e w1 ⟨rfl, hw⟩; obtain rfl := hw.symm)
        | (go_at_call 33; refine (HA.out.2 _).mono ?_; rintro e w1 ⟨rfl, hw⟩; obtain rfl := hw.symm))
      go_ret2
      exact BRetC.nil (alloc_below _ _)
    · rw [e] at h1
      rw [e2] at h2
      have HA := Lib.hid (And.intro h1 h2)
      clear h1 h2 hr e e2 hW
      go_enter Try.func8, Try.ntmps8
      go_wp2_with (first
        | (go_at_call 32; refine (HA.out.1 _).mono ?_; rintro e w1 ⟨rfl, hw⟩; obtain rfl := hw.symm)
        | (go_at_call 33; refine (HA.out.2 _).mono ?_; rintro e w1 ⟨rfl, hw⟩; obtain rfl := hw.symm))
      go_ret2
      exact BRetC.nil (alloc_below _ _)
def cutF (l : List UInt8) (n z : Int) : List UInt8 × Bool × Bool :=
  if rightB n z then (if 0 < n ∧ (l.length : Int) ≤ n * z then ([], false, false) else ((l.drop (n * z).toNat).take z.toNat, decide (n * z + z < l.length), true)) else ([], false, false)
def CRet (r : List UInt8 × Bool × Bool) (w : World) (e : Ending) (w' : World) : Prop :=
  ∃ A k c, e = .returned (.tuple #[.slice A k c, .bool r.2.1, .bool r.2.2]) ∧ k ≤ c ∧ Hid (k = r.1.length) ∧ Bs w' w'.heap.size A k r.1 ∧ Below w.heap.size w w'
theorem CRet.nil {w w' : World} (hb : Below w.heap.size w w') : CRet ([], false, false) w (.returned (.tuple #[.slice none 0 0, .bool false, .bool false])) w' := ⟨none, 0, 0, rfl, Nat.le_refl _, rfl, Bs.empty _ _ _, hb⟩
theorem retT {a b c d : Bool} {v u : Value} (h1 : a = b) (h2 : c = d) (h3 : v = u) : Ending.returned (.tuple #[v, .bool a, .bool c]) = .returned (.tuple #[u, .bool b, .bool d]) := by rw [h1, h2, h3]
/-- What the numbers of a right block are. -/
theorem right_nat {n z : Int} (h : rightB n z = true) : ∃ N Z T : Nat, n = N ∧ z = Z ∧ N ≤ 1048575 ∧ 16 ≤ Z ∧ Z ≤ 1024 ∧ (N : Int) * (Z : Int) = (T : Int) ∧ T ≤ 1073740800 ∧ (N = 0 → T = 0) ∧ N * Z = T := by
  obtain ⟨hp, h0, h1⟩ := (right_iff n z).1 h
  obtain ⟨z0, z1⟩ := powZ_le z hp
  obtain ⟨N, rfl⟩ := Int.eq_ofNat_of_zero_le h0
  obtain ⟨Z, rfl⟩ := Int.eq_ofNat_of_zero_le (show 0 ≤ z by omega)
  refine ⟨N, Z, N * Z, rfl, rfl, by omega, by omega, by omega, by simp, ?_, fun e => by rw [e, Nat.zero_mul], rfl⟩
  have : N * Z ≤ 1048575 * 1024 := Nat.mul_le_mul (by omega) (by omega)
  omega
theorem toNat_T {N Z T : Nat} (h : (N : Int) * (Z : Int) = (T : Int)) : ((N : Int) * (Z : Int)).toNat = T := by rw [h, Int.toNat_natCast]
set_option maxHeartbeats 4000000 in
theorem bcut_f (A : Option Addr) (n c : Nat) (l : List UInt8) (w : World) (B : Nat) (hbs : Bs w B A n l) (hB : B ≤ w.heap.size) (hc : n ≤ c) (hcI : (c : Int) ≤ 9223372036854775807) (hnI : (n : Int) ≤ 1073741824) (nu z : Int) :
    Calls Try.prog 7 #[.slice A n c, .int .i64 nu, .int .i64 z] w (CRet (cutF l nu z) w) := by
  have hir := fun W => isRight_f nu z W
  have hl := hbs.len
  by_cases hr : rightB nu z = true
  · obtain ⟨N, Z, T, rfl, rfl, hN, hZ0, hZ1, hT, hTm, hT0, _⟩ := right_nat hr
    have hcF : cutF l N Z = if 0 < N ∧ n ≤ T then ([], false, false) else ((l.drop T).take Z, decide (T + Z < n), true) := by
      unfold cutF
      rw [if_pos hr, toNat_T hT, hT, hl, Int.toNat_natCast]
      by_cases h : 0 < N ∧ n ≤ T
      · rw [if_pos h, if_pos ⟨by omega, by omega⟩]
      · rw [if_neg h, if_neg (fun e => h ⟨by omega, by omega⟩), show decide ((T : Int) + (Z : Int) < (n : Int)) = decide (T + Z < n) from decide_eq_decide.2 (by omega)]
    rw [hcF]
    rw [hr] at hir
    have HI := Lib.hid hir
    clear hir hr hcF
    have hTI : (T : Int) ≤ 1073740800 := by omega
    have hZI : (Z : Int) ≤ 1024 := by omega
    have hNI : (N : Int) ≤ 1048575 := by omega
    by_cases h0 : 0 < N ∧ n ≤ T
    · rw [if_pos h0]
      have g0 : (0 : Int) < N := by omega
      have g1 : (n : Int) ≤ T := by omega
      clear hbs hl h0
      go_enter Try.func7, Try.ntmps7
      go_wp2_with (go_at_call 30; refine (HI.out _).mono ?_; rintro e w1 ⟨rfl, hw⟩; obtain rfl := hw.symm)
      go_ret3
      exact CRet.nil (Below.refl _ _)
    · rw [if_neg h0]
      have hTn : T ≤ n := by omega
      by_cases hn : n = 0
      · obtain rfl : N = 0 := by omega
        obtain rfl := hT0 rfl
        subst hn
        obtain rfl : l = [] := List.eq_nil_of_length_eq_zero hl
        have hcl := fun W (b : Below w.heap.size w W) => bclone_f A 0 c [] W B (hbs.below' b hB) (Nat.le_trans hB b.size) (by omega)
        have hq : ∀ x : Option Addr, Hid (∀ W (b : Below w.heap.size w W), Calls Try.prog 31 #[.slice x 0 c] W (RetOwn 5 [] W)) → True := fun _ _ => trivial
        have hr2 : ((([] : List UInt8).drop 0).take Z, decide (0 + Z < 0), true) = (([] : List UInt8), false, true) := by rw [List.drop_zero, List.take_nil, decide_eq_false (by omega)]
        rw [hr2]
        have hmin : min ((Z : Nat) : Int) (0 : Int) = 0 := by omega
        have HC := Lib.hid hcl
        clear hcl hbs hl hT h0 hT0 hr2 hq
        cases A with
        | none =>
          go_enter Try.func7, Try.ntmps7
          go_wp2_with (first
            | (go_at_call 30; refine (HI.out _).mono ?_; rintro e w1 ⟨rfl, hw⟩; obtain rfl := hw.symm)
            | (go_at_call 31; refine (HC.out _ (Below.refl _ _)).mono ?_; intro e w2 h2; obtain ⟨A2, n2, c2, rfl, hc2, hn2, hb2, b2⟩ := h2.slice_; have H2 := Lib.hid (And.intro hc2 (And.intro hn2 (And.intro hb2 b2))); clear h2 hc2 hn2 hb2 b2))
          go_ret3
          exact ⟨A2, n2, c2, rfl, H2.out.1, H2.out.2.1, H2.out.2.2.1, H2.out.2.2.2⟩
        | some ad =>
          go_enter Try.func7, Try.ntmps7
          go_wp2_with (first
            | (go_at_call 30; refine (HI.out _).mono ?_; rintro e w1 ⟨rfl, hw⟩; obtain rfl := hw.symm)
            | (go_at_call 31; refine (HC.out _ (Below.refl _ _)).mono ?_; intro e w2 h2; obtain ⟨A2, n2, c2, rfl, hc2, hn2, hb2, b2⟩ := h2.slice_; have H2 := Lib.hid (And.intro hc2 (And.intro hn2 (And.intro hb2 b2))); clear h2 hc2 hn2 hb2 b2))
          go_ret3
          exact ⟨A2, n2, c2, rfl, H2.out.1, H2.out.2.1, H2.out.2.2.1, H2.out.2.2.2⟩
      · obtain ⟨b, off, rfl, hbb, _⟩ := hbs.place (by omega)
        obtain ⟨E, hE, hEm, hEd⟩ : ∃ E : Nat, min ((T : Int) + (Z : Int)) (n : Int) = (E : Int) ∧ (T ≤ E ∧ E ≤ n) ∧ (l.take E).drop T = (l.drop T).take Z ∧ decide (E < n) = decide (T + Z < n) := by
          by_cases h : T + Z ≤ n
          · refine ⟨T + Z, by omega, by omega, ?_, decide_eq_decide.2 (by omega)⟩
            rw [List.drop_take, Nat.add_sub_cancel_left]
          · refine ⟨n, by omega, by omega, ?_, decide_eq_decide.2 (by omega)⟩
            rw [List.take_of_length_le (by omega), List.take_of_length_le (by rw [List.length_drop]; omega)]
        obtain ⟨hEd, hEx⟩ := hEd
        have hcT : c = T → T = 0 := fun e => by
          by_cases hz : N = 0
          · exact hT0 hz
          · omega
        have hcut := hbs.cut (lo := T) (hi := E) (c := c) hEm.1 hEm.2 hc (A' := some ⟨b, off + T, none⟩) (by
          by_cases h : c = T
          · rw [if_pos h, hcT h, Nat.add_zero]
          · rw [if_neg h]; simp [Addr.add])
        rw [hEd] at hcut
        obtain ⟨k, ik⟩ : ∃ k, E - T = k := ⟨_, rfl⟩
        obtain ⟨cT, icT⟩ : ∃ cT, c - T = cT := ⟨_, rfl⟩
        rw [ik] at hcut
        have hcl := fun W (b : Below w.heap.size w W) => bclone_f (some ⟨_, off + T, none⟩) k cT _ W B (hcut.below' b hB) (Nat.le_trans hB b.size) (by omega)
        have HC := Lib.hid (And.intro hcl hEx)
        have gE0 : (T : Int) ≤ E := by omega
        have gE1 : (E : Int) ≤ n := by omega
        have gE2 : (E : Int) ≤ c := by omega
        obtain ⟨V, hV⟩ : ∃ V : Nat, (T : Int) + (Z : Int) = V := ⟨T + Z, by omega⟩
        have hVm : (V : Int) ≤ 1073741824 := by omega
        rw [hV] at hE
        obtain ⟨X, hX⟩ : ∃ X, (l.drop T).take Z = X := ⟨_, rfl⟩
        rw [hX] at HC
        rw [hX]
        clear hcl hbs hl hEd hEx hcut hX hcT
        by_cases hN0 : N = 0
        · subst hN0
          obtain rfl := hT0 rfl
          rw [Nat.add_zero] at HC
          obtain rfl : Z = V := by omega
          obtain rfl : E = k := by omega
          obtain rfl : c = cT := by omega
          clear hT hT0 h0 ik icT hV
          go_enter Try.func7, Try.ntmps7
          go_wp2_with (first
            | (go_at_call 30; refine (HI.out _).mono ?_; rintro e w1 ⟨rfl, hw⟩; obtain rfl := hw.symm)
            | (go_at_call 31; refine (HC.out.1 _ (Below.refl _ _)).mono ?_; intro e w2 h2; obtain ⟨A2, n2, c2, rfl, hc2, hn2, hb2, b2⟩ := h2.slice_; have H2 := Lib.hid (And.intro hc2 (And.intro hn2 (And.intro hb2 b2))); clear h2 hc2 hn2 hb2 b2))
          go_ret3
          exact ⟨A2, n2, c2, retT HC.out.2 rfl rfl, H2.out.1, H2.out.2.1, H2.out.2.2.1, H2.out.2.2.2⟩
        · have g0 : (0 : Int) < N := by omega
          have g1 : ¬ (n : Int) ≤ T := by omega
          clear hT0 h0 hN0
          go_enter Try.func7, Try.ntmps7
          go_wp2_with (first
            | (go_at_call 30; refine (HI.out _).mono ?_; rintro e w1 ⟨rfl, hw⟩; obtain rfl := hw.symm)
            | (go_at_call 31; refine (HC.out.1 _ (Below.refl _ _)).mono ?_; intro e w2 h2; obtain ⟨A2, n2, c2, rfl, hc2, hn2, hb2, b2⟩ := h2.slice_; have H2 := Lib.hid (And.intro hc2 (And.intro hn2 (And.intro hb2 b2))); clear h2 hc2 hn2 hb2 b2))
          go_ret3
          exact ⟨A2, n2, c2, retT HC.out.2 rfl rfl, H2.out.1, H2.out.2.1, H2.out.2.2.1, H2.out.2.2.2⟩
  · have hcF : cutF l nu z = ([], false, false) := by unfold cutF; rw [if_neg hr]
    have hrf : rightB nu z = false := by simpa using hr
    rw [hrf] at hir
    rw [hcF]
    have HI := Lib.hid hir
    clear hir hr hcF hrf hbs hl
    go_enter Try.func7, Try.ntmps7
    go_wp2_with (go_at_call 30; refine (HI.out _).mono ?_; rintro e w1 ⟨rfl, hw⟩; obtain rfl := hw.symm)
    go_ret3
    exact CRet.nil (Below.refl _ _)
theorem lit_one (u : UInt8) : (#[Value.int .u8 (u.toNat : Int)] : Array Value).toList = U8 [u] := rfl
section
variable {P : Program} (w : World)
theorem run_append_bs_a2 (base : Nat) (t ty e : TypeId) (i : TypeInfo) (ht : P.underlying t = some (.slice e)) (hi : P.info? e = some i) (hz : i.zero = some (.int .u8 0))
    (hsize : i.size = 1) (hby : i.bytes = 1) (v : Value) (n : Nat) (xs : List Value) (hown : w.ownsRow base e 1 v n xs)
    {B : Nat} {A : Option Addr} {m c : Nat} {l : List UInt8} (hb : Bs w B A m l) (hnm : n + m ≤ 140737488355328) (hbase : base ≤ w.heap.size) :
    ∃ v' w', (Builtin.append_ #[t, t] ty #[v, .slice A m c]).run P w = .ok v' w' ∧ w'.ownsRow base e 1 v' (n + m) (xs ++ U8 l) ∧ w.grownBy w' v.ownBlock ∧ (v'.ownBlock = v.ownBlock ∨ v'.ownBlock = some w.heap.size) := by
  have hl := hb.len
  rcases A with _ | ad
  · have hm : m = 0 := by
      rcases Nat.eq_zero_or_pos m with h0 | h0
      · exact h0
      · obtain ⟨_, _, h, _⟩ := hb.place h0
        cases h
    subst hm
    obtain rfl : l = [] := List.eq_nil_of_length_eq_zero hl
    refine ⟨v, w, ?_, by simpa [U8] using hown, World.grownBy.refl w _, .inl rfl⟩
    rcases hown.2 with ⟨rfl, rfl⟩ | ⟨g, cap, cur, rfl, _, _, hnc, _⟩
    · simp [Builtin.append_, run_underlying ht, sizeOf, typeInfo, hi, Builtin.lenOf, Builtin.firstCells]
    · simp [Builtin.append_, run_underlying ht, sizeOf, typeInfo, hi, Builtin.lenOf, Builtin.firstCells, hnc, storeCells]
  · have hcells : ∀ j u, (U8 l)[j]? = some u → w.cell? (ad.add j) = some u := by
      intro j u hu
      rw [U8_get] at hu
      obtain ⟨x, hx, rfl⟩ := Option.map_eq_some_iff.1 hu
      have hj := (List.getElem?_eq_some_iff.1 hx).1
      obtain ⟨b, off, h, _, hc⟩ := hb.place (by omega)
      injection h with h
      subst h
      rw [Addr.add_lit]
      exact hc j x hx
    obtain ⟨v', w', hrun, h2, h3, _, h5⟩ := run_append_own_at (P := P) w base t ty e i (.int .u8 0) 1 1 ht hi hz hsize hby rfl (by omega) v n xs hown ad m c (U8 l) (by rw [U8_length]; omega) hcells (U8_one l) (by simp only [maxLen]; omega) (by omega) hbase
    exact ⟨v', w', hrun, h2, h3, h5⟩
theorem wpList_append_bs_a2 {ops : Array Oper} {rest : List Oper} {o : Oper} {a : Act} {Q : Exit → Act → World → Prop} (hgd : o.guard = none) (s x : Operand) (t : TypeId)
    (ho : o.op = .call { callee := .builtin .append, args := #[s, x], argTypes := #[t, t] })
    (base : Nat) (e : TypeId) (i : TypeInfo) (ht : P.underlying t = some (.slice e)) (hi : P.info? e = some i) (hz : i.zero = some (.int .u8 0))
    (hsize : i.size = 1) (hby : i.bytes = 1) (v : Value) (n : Nat) (xs : List Value) (hs : a.eval s = v) (hown : w.ownsRow base e 1 v n xs)
    (B : Nat) (A : Option Addr) (m c : Nat) (l : List UInt8) (hx : a.eval x = .slice A m c) (hb : Bs w B A m l) (hnm : n + m ≤ 140737488355328) (hbase : base ≤ w.heap.size)
    (h : ∀ v' w', w'.ownsRow base e 1 v' (n + m) (xs ++ U8 l) → w.grownBy w' v.ownBlock → (v'.ownBlock = v.ownBlock ∨ v'.ownBlock = some w.heap.size) → wpList P ops Q rest (a.put o.dst v') w') : wpList P ops Q (o :: rest) a w :=
  wpList_plain hgd fun _ hK => by
    obtain ⟨v', w', hrun, h2, h3, h4⟩ := run_append_bs_a2 (P := P) w base t o.type e i ht hi hz hsize hby v n xs hown (c := c) hb hnm hbase
    unfold Oper.wp execOp
    simp only [ho, resolve, invoke, builtin, Sem.run_bind, Sem.run_pure, Result.andThen_ok, List.map_toArray, List.map_cons, List.map_nil, hs, hx, hrun]
    exact hK _ _ (h v' w' h2 h3 h4)
end
/-- But for a block and a row the world is as it was. -/
structure Kp (jb : Nat) (row : Option Nat) (w w' : World) : Prop where
  os : w'.os = w.os
  tape : w'.tape = w.tape
  output : w'.output = w.output
  size : w.heap.size ≤ w'.heap.size
  block : ∀ k, k < w.heap.size → k ≠ jb → some k ≠ row → w'.heap[k]? = w.heap[k]?
section
variable {jb : Nat} {row : Option Nat} {a b c : World}
theorem Kp.refl (jb : Nat) (row : Option Nat) (a : World) : Kp jb row a a := ⟨rfl, rfl, rfl, Nat.le_refl _, fun _ _ _ _ => rfl⟩
theorem Kp.below (h : Kp jb row a b) {B : Nat} (k : Below B b c) (hB : a.heap.size ≤ B) : Kp jb row a c :=
  ⟨k.os.trans h.os, k.tape.trans h.tape, k.output.trans h.output, Nat.le_trans h.size k.size, fun i hi hj hr => (k.block i (by omega)).trans (h.block i hi hj hr)⟩
theorem Kp.of (k : Below a.heap.size a b) : Kp jb row a b := (Kp.refl jb row a).below k (Nat.le_refl _)
theorem Kp.setCell (h : Kp jb row a b) (o : Nat) (v : Value) : Kp jb row a (b.setCell ⟨jb, o, none⟩ v) :=
  ⟨h.os, h.tape, h.output, Nat.le_trans h.size (by simp [World.setCell]), fun i hi hj hr => (Below.heap_setCell b ⟨jb, o, none⟩ v i hj).trans (h.block i hi hj hr)⟩
theorem Kp.grown (h : Kp jb row a b) {r : Option Nat} (g : b.grownBy c r) (hr : ∀ k, r = some k → row = some k ∨ a.heap.size ≤ k) : Kp jb row a c :=
  ⟨g.os.trans h.os, g.tape.trans h.tape, g.output.trans h.output, Nat.le_trans h.size g.size, fun i hi hj hx => (g.block i (by have := h.size; omega) (fun e => by
    rcases hr i e.symm with q | q
    · exact hx q.symm
    · omega)).trans (h.block i hi hj hx)⟩
theorem Kp.trans (h : Kp jb row a b) {r : Option Nat} (g : Kp jb r b c) (hr : ∀ k, r = some k → row = some k ∨ a.heap.size ≤ k) : Kp jb row a c :=
  ⟨g.os.trans h.os, g.tape.trans h.tape, g.output.trans h.output, Nat.le_trans h.size g.size, fun i hi hj hx => (g.block i (by have := h.size; omega) hj (fun e => by
    rcases hr i e.symm with q | q
    · exact hx q.symm
    · omega)).trans (h.block i hi hj hx)⟩
theorem Kp.toBelow (h : Kp jb row a b) {B : Nat} (hB : B ≤ a.heap.size) (hj : B ≤ jb) (hr : ∀ k, row = some k → B ≤ k) : Below B a b :=
  ⟨h.os, h.tape, h.output, h.size, fun k hk => h.block k (by omega) (by omega) (fun e => by have := hr k e.symm; omega)⟩
end
/-- The body at its address: how many bytes at most, what has come, has the last one? -/
structure JnAt (w : World) (jb most : Nat) (v : Value) (l : List UInt8) (wh : Bool) : Prop where
  blk : w.heap[jb]? = some (.cells #[.int .i64 (most : Int), v, .bool wh] 73)
  row : w.ownsRow (jb + 1) 5 1 v l.length (U8 l)
  len : l.length ≤ most
  max : most ≤ 1048576
section
variable {w w' : World} {jb most : Nat} {v : Value} {l : List UInt8} {wh : Bool}
theorem JnAt.lt (h : JnAt w jb most v l wh) : jb < w.heap.size := (Array.getElem?_eq_some_iff.1 h.blk).1
theorem JnAt.below (h : JnAt w jb most v l wh) (hb : Below w.heap.size w w') : JnAt w' jb most v l wh := ⟨(hb.block jb h.lt).trans h.blk, row_below h.row hb, h.len, h.max⟩
theorem JnAt.cells (h : JnAt w jb most v l wh) : w.cell? ⟨jb, 0, none⟩ = some (.int .i64 (most : Int)) ∧ w.cell? ⟨jb, 1, none⟩ = some v ∧ w.cell? ⟨jb, 2, none⟩ = some (.bool wh) :=
  ⟨by rw [cell_of_row _ _ _ _ _ _ h.blk]; rfl, by rw [cell_of_row _ _ _ _ _ _ h.blk]; rfl, by rw [cell_of_row _ _ _ _ _ _ h.blk]; rfl⟩
theorem JnAt.frozen (h : JnAt w jb most v l wh) (i : Nat) : w.frozen? ⟨jb, i, none⟩ = false := by simp [World.frozen?, h.blk]
theorem JnAt.open_ (h : JnAt w jb most v l wh) : ∃ A c, v = .slice A l.length c ∧ l.length ≤ c ∧ Bs w w.heap.size A l.length l := by
  obtain ⟨A, c, e, hc, hb⟩ := Bs.of_own h.row
  exact ⟨A, c, e, hc, hb⟩
/-- What has come is set anew. -/
theorem JnAt.setV (h : JnAt w jb most v l wh) {v' : Value} {l' : List UInt8} (hr : w.ownsRow (jb + 1) 5 1 v' l'.length (U8 l')) (hl : l'.length ≤ most) : JnAt (w.setCell ⟨jb, 1, none⟩ v') jb most v' l' wh :=
  ⟨heap_setCell_same w jb 1 _ 73 _ h.blk, row_kept hr (fun g cs hg _ => Below.heap_setCell w ⟨jb, 1, none⟩ v' g (fun e => by
    have h1 := own_ge hr g hg
    have h2 : g = jb := e
    omega)), hl, h.max⟩
theorem JnAt.setW (h : JnAt w jb most v l wh) (b : Bool) : JnAt (w.setCell ⟨jb, 2, none⟩ (.bool b)) jb most v l b :=
  ⟨heap_setCell_same w jb 2 _ 73 _ h.blk, row_kept h.row (fun g cs hg _ => Below.heap_setCell w ⟨jb, 2, none⟩ (.bool b) g (fun e => by
    have h1 := own_ge h.row g hg
    have h2 : g = jb := e
    omega)), h.len, h.max⟩
/-- Bytes don't lie in the body's own block. -/
theorem JnAt.off (h : JnAt w jb most v l wh) {B n : Nat} {A : Option Addr} {d : List UInt8} (hb : Bs w B A n d) (hn : 0 < n) : ∀ a, A = some a → a.block ≠ jb := by
  obtain ⟨b, off, rfl, hlt, hc⟩ := hb.place hn
  intro a e
  injection e with e
  subst e
  intro hbj
  have hbj : b = jb := hbj
  subst hbj
  obtain ⟨u, hu⟩ := byte_get (l := d) (k := 0) (by rw [hb.len]; exact hn)
  have hk := hc 0 u hu
  rw [Nat.add_zero] at hk
  have hz := h.blk
  obtain ⟨A', c', rfl, _, _⟩ := Bs.of_own h.row
  rw [cell_of_row _ _ _ _ _ _ hz] at hk
  match off, hk with
  | 0, hk => cases hk
  | 1, hk => cases hk
  | 2, hk => cases hk
  | _ + 3, hk => simp at hk
theorem Bs.kp {B n : Nat} {A : Option Addr} {d : List UInt8} (hb : Bs w B A n d) {row : Option Nat} (hk : Kp jb row w w') (ho : 0 < n → ∀ a, A = some a → a.block ≠ jb ∧ some a.block ≠ row) (hB : B ≤ w.heap.size) : Bs w' B A n d :=
  ⟨hb.len, fun hn => by
    obtain ⟨b, off, e, hlt, hc⟩ := hb.place hn
    refine ⟨b, off, e, hlt, fun k u hu => ?_⟩
    obtain ⟨h1, h2⟩ := ho hn _ e
    rw [World.cell?_of_block (w := w) (a := ⟨b, off + k, none⟩) (hk.block b (by omega) h1 h2)]
    exact hc k u hu⟩
end
theorem jdrop_f (jb most : Nat) (v : Value) (l : List UInt8) (wh : Bool) (w : World) (h : JnAt w jb most v l wh) :
    Calls Try.prog 47 #[.pointer (some ⟨jb, 0, none⟩)] w fun e w' => e = .returned (.tuple #[]) ∧ JnAt w' jb most (.slice none 0 0) [] false ∧ Kp jb none w w' := by
  obtain ⟨A, c, rfl, _, _⟩ := h.open_
  obtain ⟨c0, c1, c2⟩ := h.cells
  have f1 := h.frozen 1
  have f2 := h.frozen 2
  have hA := (h.setV (v' := .slice none 0 0) (l' := []) (World.ownsRow_nil _ _ _ _) (Nat.zero_le _)).setW false
  have hO := ((Kp.refl jb none w).setCell 1 (.slice none 0 0)).setCell 2 (.bool false)
  have HB := Lib.hid (And.intro hA hO)
  clear h hA hO
  go_enter Try.func47, Try.ntmps47
  go_wp2
  go_end0
  exact ⟨rfl, HB.out.1, HB.out.2⟩
theorem jbytes_f (jb most : Nat) (v : Value) (l : List UInt8) (wh : Bool) (w : World) (h : JnAt w jb most v l wh) :
    Calls Try.prog 16 #[.pointer (some ⟨jb, 0, none⟩)] w (RetOwn 5 l w) := by
  have hm := h.max
  have hl := h.len
  obtain ⟨A, c, rfl, _, hb⟩ := h.open_
  obtain ⟨c0, c1, c2⟩ := h.cells
  have hcl := bclone_f A l.length c l w _ hb (Nat.le_refl _) (by omega)
  obtain ⟨q, hq⟩ : ∃ q, l.length = q := ⟨_, rfl⟩
  rw [hq] at c1 hcl
  have HC := Lib.hid hcl
  clear h hq hcl hb hm hl
  go_enter Try.func16, Try.ntmps16
  go_wp2_with (go_at_call 31; refine HC.out.mono ?_; rintro e w2 ⟨v2, rfl, h2⟩)
  go_ret
  exact ⟨v2, rfl, h2⟩
def mostN (x : Int) : Nat := (min (max x 0) 1048576).toNat
theorem mostN_eq (x : Int) : min (max x 0) 1048576 = (mostN x : Int) := by unfold mostN; omega
theorem newJoin_f (x : Int) (w : World) :
    Calls Try.prog 6 #[.int .i64 x] w fun e w' => e = .returned (.pointer (some ⟨w.heap.size, 0, none⟩)) ∧ JnAt w' w.heap.size (mostN x) (.slice none 0 0) [] false ∧ Below w.heap.size w w' ∧ w'.heap.size = w.heap.size + 1 := by
  have hm := mostN_eq x
  have hmx : mostN x ≤ 1048576 := by omega
  have hj : JnAt (w.alloc (.cells #[.int .i64 (mostN x : Int), .slice none 0 0, .bool false] 73)) w.heap.size (mostN x) (.slice none 0 0) [] false :=
    ⟨heap_alloc_new w _, World.ownsRow_nil _ _ _ _, Nat.zero_le _, hmx⟩
  generalize mostN x = M at *
  obtain ⟨y, hy⟩ : ∃ y, max x 0 = y := ⟨_, rfl⟩
  rw [hy] at hm
  have HJ := Lib.hid hj
  clear hj hmx
  go_enter Try.func6, Try.ntmps6
  go_wp2
  go_ret
  exact ⟨rfl, HJ.out, alloc_below _ _, alloc_size _ _⟩
/-- Which error a block has. -/
def chkE (most : Nat) (l : List UInt8) (wh : Bool) (n z : Int) (m : Bool) (k : Nat) : Int :=
  if rightB n z = false then 1 else if wh = true ∨ n * z ≠ (l.length : Int) then 4 else if z < (k : Int) ∨ (m = true ∧ (k : Int) < z) then 20 else if most - l.length < k then 2 else 0
set_option maxHeartbeats 4000000 in
theorem jcheck_f (jb most : Nat) (v : Value) (l : List UInt8) (wh : Bool) (w : World) (h : JnAt w jb most v l wh) (n z : Int) (m : Bool) (A2 : Option Addr) (k c2 : Nat) (hk : (k : Int) ≤ 1099511627776) :
    Calls Try.prog 48 #[.pointer (some ⟨jb, 0, none⟩), .agg #[.int .i64 n, .bool m, .int .i64 z], .slice A2 k c2] w fun e w' => e = .returned (.int .i64 (chkE most l wh n z m k)) ∧ Below w.heap.size w w' := by
  have hir := fun W => isRight_f n z W
  have hmx := h.max
  have hll := h.len
  have hj := fun W (hb : Below w.heap.size w W) => (h.below hb).cells
  obtain ⟨A, c, rfl, _, _⟩ := h.open_
  have hb1 := alloc_below w (.cells #[.int .i64 n, .bool m, .int .i64 z] 32)
  obtain ⟨E, hE⟩ : ∃ E, chkE most l wh n z m k = E := ⟨_, rfl⟩
  rw [hE]
  obtain ⟨q, hq⟩ : ∃ q, l.length = q := ⟨_, rfl⟩
  have hE' : E = if rightB n z = false then 1 else if wh = true ∨ n * z ≠ (q : Int) then 4 else if z < (k : Int) ∨ (m = true ∧ (k : Int) < z) then 20 else if most - q < k then 2 else 0 := by rw [← hE]; unfold chkE; rw [hq]
  rw [hq] at hj hll
  have j0 := fun o => hj _ (alloc_below w o)
  have HJ := Lib.hid hj
  have hlt := h.lt
  clear hE h hj hq
  have c0 := fun o => (j0 o).1
  have c1 := fun o => (j0 o).2.1
  have c2' := fun o => (j0 o).2.2
  have HB := Lib.hid hb1
  clear j0 hb1
  cases hr : rightB n z with
  | false =>
    rw [hr] at hir hE'
    rw [if_pos rfl] at hE'
    have HI := Lib.hid (And.intro hir hE')
    clear hir hr hE'
    go_enter Try.func48, Try.ntmps48
    go_wp2_with (go_at_call 30; refine (HI.out.1 _).mono ?_; rintro e w1 ⟨rfl, hw⟩; obtain rfl := hw.symm)
    go_ret
    exact ⟨by rw [HI.out.2]; rfl, HB.out⟩
  | true =>
    obtain ⟨N, Z, T, rfl, rfl, hN, hZ0, hZ1, hT, hTm, hT0, _⟩ := right_nat hr
    rw [hr] at hir hE'
    rw [if_neg (by simp), hT] at hE'
    have hTI : (T : Int) ≤ 1073740800 := by omega
    have hZI : (Z : Int) ≤ 1024 := by omega
    have hNI : (N : Int) ≤ 1048575 := by omega
    have HI := Lib.hid hir
    clear hir hr
    cases wh with
    | true =>
      rw [if_pos (.inl rfl)] at hE'
      have HE := Lib.hid hE'
      clear hE'
      go_enter Try.func48, Try.ntmps48
      go_wp2_with (go_at_call 30; refine (HI.out _).mono ?_; rintro e w1 ⟨rfl, hw⟩; obtain rfl := hw.symm)
      go_quiet (fail)
      go_wp2
      go_ret
      exact ⟨by rw [HE.out]; rfl, HB.out.trans (drewN_below _ _ _)⟩
    | false =>
      by_cases hTq : T = q
      · have t0 : ((T : Int) != (q : Int)) = false := by rw [hTq]; simp
        rw [if_neg (by rintro (h | h); cases h; exact h (by rw [hTq]))] at hE'
        have hmq : (most : Int) ≤ 1048576 := by omega
        obtain ⟨r, hr⟩ : ∃ r, most - q = r := ⟨_, rfl⟩
        have hrI : (most : Int) - (q : Int) = (r : Int) := by omega
        rw [hr] at hE'
        have hqI : (q : Int) ≤ 1048576 := by omega
        have hrm : (r : Int) ≤ 1048576 := by omega
        clear hr
        by_cases hkZ : Z < k
        · have k0 : (Z : Int) < k := by omega
          rw [if_pos (.inl k0)] at hE'
          have HE := Lib.hid hE'
          clear hE'
          go_enter Try.func48, Try.ntmps48
          go_wp2_with (go_at_call 30; refine (HI.out _).mono ?_; rintro e w1 ⟨rfl, hw⟩; obtain rfl := hw.symm)
          go_quiet (fail)
          go_wp2
          go_ret
          exact ⟨by rw [HE.out]; rfl, HB.out.trans (drewN_below _ _ _)⟩
        · have k0 : ¬ (Z : Int) < k := by omega
          cases m with
          | true =>
            by_cases hk2 : k < Z
            · have k1 : (k : Int) < Z := by omega
              rw [if_pos (.inr ⟨rfl, k1⟩)] at hE'
              have HE := Lib.hid hE'
              clear hE'
              go_enter Try.func48, Try.ntmps48
              go_wp2_with (go_at_call 30; refine (HI.out _).mono ?_; rintro e w1 ⟨rfl, hw⟩; obtain rfl := hw.symm)
              go_quiet (fail)
              go_wp2
              go_ret
              exact ⟨by rw [HE.out]; rfl, HB.out.trans (drewN_below _ _ _)⟩
            · have k1 : ¬ (k : Int) < Z := by omega
              rw [if_neg (by rintro (h | ⟨_, h⟩); exact k0 h; exact k1 h)] at hE'
              by_cases hrk : r < k
              · have k2 : (r : Int) < k := by omega
                rw [if_pos hrk] at hE'
                have HE := Lib.hid hE'
                clear hE'
                go_enter Try.func48, Try.ntmps48
                go_wp2_with (go_at_call 30; refine (HI.out _).mono ?_; rintro e w1 ⟨rfl, hw⟩; obtain rfl := hw.symm)
                go_quiet (fail)
                go_wp2
                go_quiet (fail)
                go_wp2
                go_ret
                exact ⟨by rw [HE.out]; rfl, (HB.out.trans (drewN_below _ _ _)).trans (drewN_below _ _ _)⟩
              · have k2 : ¬ (r : Int) < k := by omega
                rw [if_neg hrk] at hE'
                have HE := Lib.hid hE'
                clear hE'
                go_enter Try.func48, Try.ntmps48
                go_wp2_with (go_at_call 30; refine (HI.out _).mono ?_; rintro e w1 ⟨rfl, hw⟩; obtain rfl := hw.symm)
                go_quiet (fail)
                go_wp2
                go_quiet (fail)
                go_wp2
                go_ret
                exact ⟨by rw [HE.out]; rfl, (HB.out.trans (drewN_below _ _ _)).trans (drewN_below _ _ _)⟩
          | false =>
            rw [if_neg (by rintro (h | ⟨h, _⟩); exact k0 h; cases h)] at hE'
            by_cases hrk : r < k
            · have k2 : (r : Int) < k := by omega
              rw [if_pos hrk] at hE'
              have HE := Lib.hid hE'
              clear hE'
              go_enter Try.func48, Try.ntmps48
              go_wp2_with (go_at_call 30; refine (HI.out _).mono ?_; rintro e w1 ⟨rfl, hw⟩; obtain rfl := hw.symm)
              go_quiet (fail)
              go_wp2
              go_quiet (fail)
              go_wp2
              go_ret
              exact ⟨by rw [HE.out]; rfl, (HB.out.trans (drewN_below _ _ _)).trans (drewN_below _ _ _)⟩
            · have k2 : ¬ (r : Int) < k := by omega
              rw [if_neg hrk] at hE'
              have HE := Lib.hid hE'
              clear hE'
              go_enter Try.func48, Try.ntmps48
              go_wp2_with (go_at_call 30; refine (HI.out _).mono ?_; rintro e w1 ⟨rfl, hw⟩; obtain rfl := hw.symm)
              go_quiet (fail)
              go_wp2
              go_quiet (fail)
              go_wp2
              go_ret
              exact ⟨by rw [HE.out]; rfl, (HB.out.trans (drewN_below _ _ _)).trans (drewN_below _ _ _)⟩
      · have t0 : ((T : Int) != (q : Int)) = true := bne_iff_ne.2 (by omega)
        rw [if_pos (.inr (by omega))] at hE'
        have HE := Lib.hid hE'
        clear hE'
        go_enter Try.func48, Try.ntmps48
        go_wp2_with (go_at_call 30; refine (HI.out _).mono ?_; rintro e w1 ⟨rfl, hw⟩; obtain rfl := hw.symm)
        go_quiet (fail)
        go_wp2
        go_ret
        exact ⟨by rw [HE.out]; rfl, HB.out.trans (drewN_below _ _ _)⟩
def jput (most : Nat) (l : List UInt8) (wh : Bool) (n z : Int) (m : Bool) (d : List UInt8) : (List UInt8 × Bool) × Bool × Int :=
  if chkE most (if n = 0 then [] else l) (if n = 0 then false else wh) n z m d.length = 0 then (((if n = 0 then [] else l) ++ d, !m), !m, 0) else (([], false), false, chkE most (if n = 0 then [] else l) (if n = 0 then false else wh) n z m d.length)
theorem jn_set {w : World} {jb most : Nat} {v v' : Value} {l' : List UInt8} {wh : Bool} (hb : w.heap[jb]? = some (.cells #[.int .i64 (most : Int), v, .bool wh] 73)) (hr : w.ownsRow (jb + 1) 5 1 v' l'.length (U8 l')) (hl : l'.length ≤ most) (hm : most ≤ 1048576) : JnAt (w.setCell ⟨jb, 1, none⟩ v') jb most v' l' wh :=
  ⟨heap_setCell_same w jb 1 _ 73 _ hb, row_kept hr (fun g cs hg _ => Below.heap_setCell w ⟨jb, 1, none⟩ v' g (fun e => by
    have h1 := own_ge hr g hg
    have h2 : g = jb := e
    omega)), hl, hm⟩
theorem Kp.weak {jb : Nat} {row : Option Nat} {a b : World} (h : Kp jb none a b) : Kp jb row a b := ⟨h.os, h.tape, h.output, h.size, fun k hk hj _ => h.block k hk hj (by simp)⟩
theorem range_blk3 {w : World} {b : Nat} {cs : Array Value} {t : TypeId} {vs : List Value} (h : w.heap[b]? = some (.cells cs t)) (e : cs.toList = vs) : w.rangeAt b 0 vs := by
  intro j v hv
  rw [Nat.zero_add, cell_of_row _ _ _ _ _ _ h, ← hv, ← e]
  exact (Array.getElem?_toList ..).symm
theorem chkE_ok {most : Nat} {l : List UInt8} {wh : Bool} {n z : Int} {m : Bool} {k : Nat} (h : chkE most l wh n z m k = 0) (hl : l.length ≤ most) : l.length + k ≤ most ∧ rightB n z = true ∧ wh = false ∧ n * z = (l.length : Int) ∧ (k : Int) ≤ z ∧ (m = true → (k : Int) = z) := by
  unfold chkE at h
  split at h
  · omega
  · rename_i hr
    split at h
    · omega
    · rename_i h1
      split at h
      · omega
      · rename_i h2
        split at h
        · omega
        · refine ⟨by omega, by simpa using hr, ?_, ?_, by omega, fun e => ?_⟩
          · cases wh with
            | true => exact absurd (.inl rfl) h1
            | false => rfl
          · exact Classical.byContradiction fun e => h1 (.inr e)
          · have q1 : ¬ z < (k : Int) := fun q => h2 (.inl q)
            have q2 : ¬ (k : Int) < z := fun q => h2 (.inr ⟨e, q⟩)
            omega
def PutRet (jb most : Nat) (v : Value) (r : (List UInt8 × Bool) × Bool × Int) (w : World) (e : Ending) (w' : World) : Prop :=
  ∃ v', e = .returned (.tuple #[.bool r.2.1, .int .i64 r.2.2]) ∧ JnAt w' jb most v' r.1.1 r.1.2 ∧ Kp jb v.ownBlock w w' ∧ ∀ g, v'.ownBlock = some g → v.ownBlock = some g ∨ w.heap.size ≤ g
set_option maxHeartbeats 8000000 in
theorem jput_f (jb most : Nat) (v : Value) (l : List UInt8) (wh : Bool) (w : World) (h : JnAt w jb most v l wh) (n z : Int) (m : Bool) (A2 : Option Addr) (k c2 : Nat) (d : List UInt8) (hd : Bs w w.heap.size A2 k d) (hk : (k : Int) ≤ 1099511627776) :
    Calls Try.prog 14 #[.pointer (some ⟨jb, 0, none⟩), .agg #[.int .i64 n, .bool m, .int .i64 z], .slice A2 k c2] w (PutRet jb most v (jput most l wh n z m d) w) := by
  obtain ⟨i0, hi0, hz0, hz1, hz2⟩ := info_parts info_u8
  have hlt := h.lt
  have hdl := hd.len
  have hmx := h.max
  have hll := h.len
  obtain ⟨l0, hl0⟩ : ∃ l0, (if n = 0 then [] else l) = l0 := ⟨_, rfl⟩
  obtain ⟨wh0, hw0⟩ : ∃ wh0, (if n = 0 then false else wh) = wh0 := ⟨_, rfl⟩
  obtain ⟨E, hE⟩ : ∃ E, chkE most l0 wh0 n z m k = E := ⟨_, rfl⟩
  have hl0m : l0.length ≤ most := by
    rw [← hl0]
    split
    · exact Nat.zero_le _
    · exact hll
  have hR : jput most l wh n z m d = if E = 0 then ((l0 ++ d, !m), !m, 0) else (([], false), false, E) := by unfold jput; rw [hl0, hw0, hdl, hE]
  obtain ⟨R, hRR⟩ : ∃ R, jput most l wh n z m d = R := ⟨_, rfl⟩
  rw [hRR] at hR ⊢
  have hqq : E = 0 → l0.length + k ≤ most := fun e => (chkE_ok (hE.trans e) hl0m).1
  have HV := Lib.hid fun g (e : v.ownBlock = some g) => (h.row.lt g e).2
  have hnj : ¬ jb = w.heap.size := by omega
  have hnj' : ¬ w.heap.size = jb := by omega
  have hx0 := heap_alloc_new w (.cells #[.int .i64 n, .bool m, .int .i64 z] 32)
  have hj0 := h.below (alloc_below w (.cells #[.int .i64 n, .bool m, .int .i64 z] 32))
  have hd0 := (hd.below (alloc_below w (.cells #[.int .i64 n, .bool m, .int .i64 z] 32)))
  have HH := Lib.hid (And.intro hR (And.intro hqq (And.intro hx0 (And.intro hj0 (And.intro hd0 (And.intro hE hdl))))))
  have HM := Lib.hid (And.intro hmx (And.intro hl0m (And.intro hl0 hw0)))
  clear hRR hR hqq hx0 hj0 hd0 hE h hd hdl hmx hll hl0m
  by_cases hn : n = 0
  · subst hn
    rw [if_pos rfl] at hl0 hw0
    subst hl0 hw0
    clear hlt
    have hVL : Hid (∀ g, (Value.slice none 0 0).ownBlock = some g → v.ownBlock = some g ∧ g < w.heap.size) := Lib.hid fun g e => by cases e
    go_enter Try.func14, Try.ntmps14
    go_wp2_with fail
    refine calls_at_world (F := fun W => W = w.alloc (.cells #[.int .i64 0, .bool m, .int .i64 z] 32)) rfl fun W0 hW0 => ?_
    have hs0 : W0.heap.size = w.heap.size + 1 := by rw [hW0]; exact alloc_size _ _
    have q0 := HH.out.2.2
    rw [← hW0] at q0
    refine (jdrop_f jb most v l wh W0 q0.2.1).mono ?_
    rintro e w1 ⟨rfl, j1, k1⟩
    have k1' : Kp jb none w w1 := (Kp.of (hW0 ▸ alloc_below w _)).trans k1 (fun g e => by cases e)
    have hx1 := (k1.block w.heap.size (by omega) hnj' (by simp)).trans q0.1
    have hd1 := q0.2.2.1.kp k1 (fun hp a ha => ⟨q0.2.1.off q0.2.2.1 hp a ha, by simp⟩) (by omega)
    have hs1 := k1.size
    have H1 := Lib.hid (And.intro j1 (And.intro (k1'.weak (row := v.ownBlock)) (And.intro hx1 (And.intro hd1 (show w.heap.size + 1 ≤ w1.heap.size by omega)))))
    have r1 := range_blk3 hx1 rfl
    obtain ⟨x0, x1, x2⟩ : w1.cell? ⟨w.heap.size, 0, none⟩ = some (.int .i64 0) ∧ w1.cell? ⟨w.heap.size, 1, none⟩ = some (.bool m) ∧ w1.cell? ⟨w.heap.size, 2, none⟩ = some (.int .i64 z) := ⟨r1 0 _ rfl, r1 1 _ rfl, r1 2 _ rfl⟩
    clear hW0 q0 j1 k1 k1' hx1 hd1 hs0 hs1
    go_wp2_with (refine wpList_load_mid rfl 32 (.tmp 4) rfl w.heap.size 0 rfl [.int .i64 0, .bool m, .int .i64 z] _ r1 Try.underlying32 rfl size_blk ?_)
    have hck := jcheck_f jb most _ _ _ w1 H1.out.1 0 z m A2 k c2 hk
    rw [HH.out.2.2.2.2.2.1] at hck
    refine hck.mono ?_
    rintro e w2 ⟨rfl, b2⟩
    have j2 := H1.out.1.below b2
    have hx2 := (b2.block w.heap.size (by have := H1.out.2.2.2.2; omega)).trans H1.out.2.2.1
    have hd2 := (H1.out.2.2.2.1.below' b2 (by have := H1.out.2.2.2.2; omega)).more (Nat.le_trans (show w.heap.size ≤ w1.heap.size by have := H1.out.2.2.2.2; omega) b2.size)
    have hs2 := b2.size
    have H2 := Lib.hid (And.intro j2 (And.intro (H1.out.2.1.below b2 (by have := H1.out.2.2.2.2; omega)) (And.intro hx2 (And.intro hd2 (show w.heap.size + 1 ≤ w2.heap.size by have := H1.out.2.2.2.2; omega)))))
    have r2 := range_blk3 hx2 rfl
    obtain ⟨y0, y1, y2⟩ : w2.cell? ⟨w.heap.size, 0, none⟩ = some (.int .i64 0) ∧ w2.cell? ⟨w.heap.size, 1, none⟩ = some (.bool m) ∧ w2.cell? ⟨w.heap.size, 2, none⟩ = some (.int .i64 z) := ⟨r2 0 _ rfl, r2 1 _ rfl, r2 2 _ rfl⟩
    clear j2 b2 hx2 hd2 hs2 hck r1 r2 x0 x1 x2
    by_cases hE0 : E = 0
    · subst hE0
      have d0 := H2.out.1.cells
      obtain ⟨e0, e1, e2⟩ := d0
      obtain ⟨q, hq⟩ : ∃ q, ([] : List UInt8).length = q := ⟨_, rfl⟩

      have hVQ := hVL
      have hsum : ([] : List UInt8).length + k ≤ most := HH.out.2.1 rfl
      have hq0 : q ≤ 1048576 := by have := HM.out.1; omega
      have HS := Lib.hid hsum
      have hown := H2.out.1.row
      rw [hq] at hown
      have HO := Lib.hid (And.intro hown hq)
      have hjs : jb + 1 ≤ w2.heap.size := by have := H2.out.1.lt; omega
      clear hsum hq hown
      cases m with
      | true =>
        go_wp2_with (at_builtin
                     refine wpList_append_bs_a2 _ rfl (.tmp 27) (.tmp 28) 22 rfl (jb + 1) 5 i0 Try.underlying22 hi0 hz0 hz1 hz2 _ q _ rfl HO.out.1 _ A2 k c2 d rfl H2.out.2.2.2.1 (by omega) hjs ?_
                     intro v3 w3 hown3 hg3 hat3
                     have hbj := (hg3.block jb H2.out.1.lt (fun e => by have := own_ge HO.out.1 jb e.symm; omega)).trans H2.out.1.blk
                     have hxj := (hg3.block w.heap.size (by have := H2.out.2.2.2.2; omega) (fun e => by
                        have := (hVQ.out w.heap.size e.symm).2
                        omega)).trans H2.out.2.2.1
                     have hz3 := (World.cell?_of_block (w := w2) (a := ⟨jb, 1, none⟩) (hg3.block jb H2.out.1.lt (fun e => by have := own_ge HO.out.1 jb e.symm; omega))).trans e1
                     have hz4 := (World.cell?_of_block (w := w2) (a := ⟨jb, 2, none⟩) (hg3.block jb H2.out.1.lt (fun e => by have := own_ge HO.out.1 jb e.symm; omega))).trans e2
                     have fz3 : w3.frozen? ⟨jb, 1, none⟩ = false := by simp [World.frozen?, hbj]
                     have fz4 : w3.frozen? ⟨jb, 2, none⟩ = false := by simp [World.frozen?, hbj]
                     have hx3 : w3.cell? ⟨w.heap.size, 1, none⟩ = some (.bool true) := by rw [cell_of_row _ _ _ _ _ _ hxj]; rfl
                     have hown4 : w3.ownsRow (jb + 1) 5 1 v3 (([] : List UInt8) ++ d).length (U8 (([] : List UInt8) ++ d)) := by rw [List.length_append, HO.out.2, HH.out.2.2.2.2.2.2, U8_append]; exact hown3
                     have hj4 := (jn_set hbj hown4 (by rw [List.length_append, HH.out.2.2.2.2.2.2]; exact HS.out) HM.out.1).setW false
                     have hk4 := ((H2.out.2.1.grown hg3 (fun g e => .inl (hVQ.out g e).1)).setCell 1 v3).setCell 2 (.bool false)
                     have H3 := Lib.hid (And.intro hj4 (And.intro hk4 hat3))
                     have hown5 : w3.ownsRow (jb + 1) 5 1 v3 (q + k) (U8 (([] : List UInt8) ++ d)) := by rw [U8_append]; exact hown3
                     obtain ⟨vA3, vc3, rfl, _, _⟩ := Bs.of_own hown5
                     clear hown3 hown5 hown4 hj4 hk4 hg3 hat3 hbj hxj e0 e1 e2 y0 y1 y2)
        go_ret2
        rw [HH.out.1, if_pos trivial]
        refine ⟨.slice vA3 (q + k) vc3, rfl, H3.out.1, H3.out.2.1, ?_⟩
        · intro g hg
          rcases H3.out.2.2 with e | e
          · rw [e] at hg
            exact .inl (hVQ.out g hg).1
          · rw [e] at hg
            injection hg with hg
            exact .inr (by have := H2.out.2.2.2.2; omega)
      | false =>
        go_wp2_with (at_builtin
                     refine wpList_append_bs_a2 _ rfl (.tmp 27) (.tmp 28) 22 rfl (jb + 1) 5 i0 Try.underlying22 hi0 hz0 hz1 hz2 _ q _ rfl HO.out.1 _ A2 k c2 d rfl H2.out.2.2.2.1 (by omega) hjs ?_
                     intro v3 w3 hown3 hg3 hat3
                     have hbj := (hg3.block jb H2.out.1.lt (fun e => by have := own_ge HO.out.1 jb e.symm; omega)).trans H2.out.1.blk
                     have hxj := (hg3.block w.heap.size (by have := H2.out.2.2.2.2; omega) (fun e => by
                        have := (hVQ.out w.heap.size e.symm).2
                        omega)).trans H2.out.2.2.1
                     have hz3 := (World.cell?_of_block (w := w2) (a := ⟨jb, 1, none⟩) (hg3.block jb H2.out.1.lt (fun e => by have := own_ge HO.out.1 jb e.symm; omega))).trans e1
                     have hz4 := (World.cell?_of_block (w := w2) (a := ⟨jb, 2, none⟩) (hg3.block jb H2.out.1.lt (fun e => by have := own_ge HO.out.1 jb e.symm; omega))).trans e2
                     have fz3 : w3.frozen? ⟨jb, 1, none⟩ = false := by simp [World.frozen?, hbj]
                     have fz4 : w3.frozen? ⟨jb, 2, none⟩ = false := by simp [World.frozen?, hbj]
                     have hx3 : w3.cell? ⟨w.heap.size, 1, none⟩ = some (.bool false) := by rw [cell_of_row _ _ _ _ _ _ hxj]; rfl
                     have hown4 : w3.ownsRow (jb + 1) 5 1 v3 (([] : List UInt8) ++ d).length (U8 (([] : List UInt8) ++ d)) := by rw [List.length_append, HO.out.2, HH.out.2.2.2.2.2.2, U8_append]; exact hown3
                     have hj4 := (jn_set hbj hown4 (by rw [List.length_append, HH.out.2.2.2.2.2.2]; exact HS.out) HM.out.1).setW true
                     have hk4 := ((H2.out.2.1.grown hg3 (fun g e => .inl (hVQ.out g e).1)).setCell 1 v3).setCell 2 (.bool true)
                     have H3 := Lib.hid (And.intro hj4 (And.intro hk4 hat3))
                     have hown5 : w3.ownsRow (jb + 1) 5 1 v3 (q + k) (U8 (([] : List UInt8) ++ d)) := by rw [U8_append]; exact hown3
                     obtain ⟨vA3, vc3, rfl, _, _⟩ := Bs.of_own hown5
                     clear hown3 hown5 hown4 hj4 hk4 hg3 hat3 hbj hxj e0 e1 e2 y0 y1 y2)
        go_ret2
        rw [HH.out.1, if_pos trivial]
        refine ⟨.slice vA3 (q + k) vc3, rfl, H3.out.1, H3.out.2.1, ?_⟩
        · intro g hg
          rcases H3.out.2.2 with e | e
          · rw [e] at hg
            exact .inl (hVQ.out g hg).1
          · rw [e] at hg
            injection hg with hg
            exact .inr (by have := H2.out.2.2.2.2; omega)
    · have hEb : (E != 0) = true := bne_iff_ne.2 hE0
      have HE := Lib.hid hE0
      clear hE0
      go_wp2_with fail
      refine (jdrop_f jb most _ _ _ w2 H2.out.1).mono ?_
      rintro e w3 ⟨rfl, j3, k3⟩
      have H3 := Lib.hid (And.intro j3 (H2.out.2.1.trans k3 (fun g e => by cases e)))
      clear j3 k3 y0 y1 y2
      go_wp2
      go_ret2
      rw [HH.out.1, if_neg HE.out]
      exact ⟨.slice none 0 0, rfl, H3.out.1, H3.out.2, fun g hg => by cases hg⟩
  · rw [if_neg hn] at hl0 hw0
    subst hl0 hw0
    have hn0 : (n == 0) = false := beq_eq_false_iff_ne.2 hn
    clear hlt
    have hVL : Hid (∀ g, v.ownBlock = some g → v.ownBlock = some g ∧ g < w.heap.size) := Lib.hid fun g e => ⟨e, HV.out g e⟩
    obtain ⟨vA, vc, rfl, _, _⟩ := HH.out.2.2.2.1.open_
    have r0 := range_box w #[.int .i64 n, .bool m, .int .i64 z] 32 rfl
    go_enter Try.func14, Try.ntmps14
    go_wp2_with (refine wpList_load_mid rfl 32 (.tmp 4) rfl w.heap.size 0 rfl [.int .i64 n, .bool m, .int .i64 z] _ r0 Try.underlying32 rfl size_blk ?_)
    refine calls_at_world (F := fun W => W = w.alloc (.cells #[.int .i64 n, .bool m, .int .i64 z] 32)) rfl fun w1 hW0 => ?_
    have hs0 : w1.heap.size = w.heap.size + 1 := by rw [hW0]; exact alloc_size _ _
    have q0 := HH.out.2.2
    rw [← hW0] at q0
    have H1 := Lib.hid (And.intro q0.2.1 (And.intro (Kp.of (jb := jb) (row := (Value.slice vA l.length vc).ownBlock) (hW0 ▸ alloc_below w _) : Kp jb (Value.slice vA l.length vc).ownBlock w w1) (And.intro q0.1 (And.intro q0.2.2.1 (show w.heap.size + 1 ≤ w1.heap.size by omega)))))
    have r1 := range_blk3 q0.1 rfl
    obtain ⟨x0, x1, x2⟩ : w1.cell? ⟨w.heap.size, 0, none⟩ = some (.int .i64 n) ∧ w1.cell? ⟨w.heap.size, 1, none⟩ = some (.bool m) ∧ w1.cell? ⟨w.heap.size, 2, none⟩ = some (.int .i64 z) := ⟨r1 0 _ rfl, r1 1 _ rfl, r1 2 _ rfl⟩
    clear hW0 q0 hs0 r0
    have hck := jcheck_f jb most _ _ _ w1 H1.out.1 n z m A2 k c2 hk
    rw [HH.out.2.2.2.2.2.1] at hck
    refine hck.mono ?_
    rintro e w2 ⟨rfl, b2⟩
    have j2 := H1.out.1.below b2
    have hx2 := (b2.block w.heap.size (by have := H1.out.2.2.2.2; omega)).trans H1.out.2.2.1
    have hd2 := (H1.out.2.2.2.1.below' b2 (by have := H1.out.2.2.2.2; omega)).more (Nat.le_trans (show w.heap.size ≤ w1.heap.size by have := H1.out.2.2.2.2; omega) b2.size)
    have hs2 := b2.size
    have H2 := Lib.hid (And.intro j2 (And.intro (H1.out.2.1.below b2 (by have := H1.out.2.2.2.2; omega)) (And.intro hx2 (And.intro hd2 (show w.heap.size + 1 ≤ w2.heap.size by have := H1.out.2.2.2.2; omega)))))
    have r2 := range_blk3 hx2 rfl
    obtain ⟨y0, y1, y2⟩ : w2.cell? ⟨w.heap.size, 0, none⟩ = some (.int .i64 n) ∧ w2.cell? ⟨w.heap.size, 1, none⟩ = some (.bool m) ∧ w2.cell? ⟨w.heap.size, 2, none⟩ = some (.int .i64 z) := ⟨r2 0 _ rfl, r2 1 _ rfl, r2 2 _ rfl⟩
    clear j2 b2 hx2 hd2 hs2 hck r1 r2 x0 x1 x2
    by_cases hE0 : E = 0
    · subst hE0
      have d0 := H2.out.1.cells
      obtain ⟨e0, e1, e2⟩ := d0
      obtain ⟨q, hq⟩ : ∃ q, l.length = q := ⟨_, rfl⟩
      rw [hq] at e1
      have hVQ : Hid (∀ g, (Value.slice vA q vc).ownBlock = some g → (Value.slice vA l.length vc).ownBlock = some g ∧ g < w.heap.size) := by rw [← hq]; exact hVL
      have hsum : l.length + k ≤ most := HH.out.2.1 rfl
      have hq0 : q ≤ 1048576 := by have := HM.out.1; omega
      have HS := Lib.hid hsum
      have hown := H2.out.1.row
      rw [hq] at hown
      have HO := Lib.hid (And.intro hown hq)
      have hjs : jb + 1 ≤ w2.heap.size := by have := H2.out.1.lt; omega
      clear hsum hq hown
      cases m with
      | true =>
        go_wp2_with (at_builtin
                     refine wpList_append_bs_a2 _ rfl (.tmp 27) (.tmp 28) 22 rfl (jb + 1) 5 i0 Try.underlying22 hi0 hz0 hz1 hz2 _ q _ rfl HO.out.1 _ A2 k c2 d rfl H2.out.2.2.2.1 (by omega) hjs ?_
                     intro v3 w3 hown3 hg3 hat3
                     have hbj := (hg3.block jb H2.out.1.lt (fun e => by have := own_ge HO.out.1 jb e.symm; omega)).trans H2.out.1.blk
                     have hxj := (hg3.block w.heap.size (by have := H2.out.2.2.2.2; omega) (fun e => by
                        have := (hVQ.out w.heap.size e.symm).2
                        omega)).trans H2.out.2.2.1
                     have hz3 := (World.cell?_of_block (w := w2) (a := ⟨jb, 1, none⟩) (hg3.block jb H2.out.1.lt (fun e => by have := own_ge HO.out.1 jb e.symm; omega))).trans e1
                     have hz4 := (World.cell?_of_block (w := w2) (a := ⟨jb, 2, none⟩) (hg3.block jb H2.out.1.lt (fun e => by have := own_ge HO.out.1 jb e.symm; omega))).trans e2
                     have fz3 : w3.frozen? ⟨jb, 1, none⟩ = false := by simp [World.frozen?, hbj]
                     have fz4 : w3.frozen? ⟨jb, 2, none⟩ = false := by simp [World.frozen?, hbj]
                     have hx3 : w3.cell? ⟨w.heap.size, 1, none⟩ = some (.bool true) := by rw [cell_of_row _ _ _ _ _ _ hxj]; rfl
                     have hown4 : w3.ownsRow (jb + 1) 5 1 v3 (l ++ d).length (U8 (l ++ d)) := by rw [List.length_append, HO.out.2, HH.out.2.2.2.2.2.2, U8_append]; exact hown3
                     have hj4 := (jn_set hbj hown4 (by rw [List.length_append, HH.out.2.2.2.2.2.2]; exact HS.out) HM.out.1).setW false
                     have hk4 := ((H2.out.2.1.grown hg3 (fun g e => .inl (hVQ.out g e).1)).setCell 1 v3).setCell 2 (.bool false)
                     have H3 := Lib.hid (And.intro hj4 (And.intro hk4 hat3))
                     have hown5 : w3.ownsRow (jb + 1) 5 1 v3 (q + k) (U8 (l ++ d)) := by rw [U8_append]; exact hown3
                     obtain ⟨vA3, vc3, rfl, _, _⟩ := Bs.of_own hown5
                     clear hown3 hown5 hown4 hj4 hk4 hg3 hat3 hbj hxj e0 e1 e2 y0 y1 y2)
        go_ret2
        rw [HH.out.1, if_pos trivial]
        refine ⟨.slice vA3 (q + k) vc3, rfl, H3.out.1, H3.out.2.1, ?_⟩
        · intro g hg
          rcases H3.out.2.2 with e | e
          · rw [e] at hg
            exact .inl (hVQ.out g hg).1
          · rw [e] at hg
            injection hg with hg
            exact .inr (by have := H2.out.2.2.2.2; omega)
      | false =>
        go_wp2_with (at_builtin
                     refine wpList_append_bs_a2 _ rfl (.tmp 27) (.tmp 28) 22 rfl (jb + 1) 5 i0 Try.underlying22 hi0 hz0 hz1 hz2 _ q _ rfl HO.out.1 _ A2 k c2 d rfl H2.out.2.2.2.1 (by omega) hjs ?_
                     intro v3 w3 hown3 hg3 hat3
                     have hbj := (hg3.block jb H2.out.1.lt (fun e => by have := own_ge HO.out.1 jb e.symm; omega)).trans H2.out.1.blk
                     have hxj := (hg3.block w.heap.size (by have := H2.out.2.2.2.2; omega) (fun e => by
                        have := (hVQ.out w.heap.size e.symm).2
                        omega)).trans H2.out.2.2.1
                     have hz3 := (World.cell?_of_block (w := w2) (a := ⟨jb, 1, none⟩) (hg3.block jb H2.out.1.lt (fun e => by have := own_ge HO.out.1 jb e.symm; omega))).trans e1
                     have hz4 := (World.cell?_of_block (w := w2) (a := ⟨jb, 2, none⟩) (hg3.block jb H2.out.1.lt (fun e => by have := own_ge HO.out.1 jb e.symm; omega))).trans e2
                     have fz3 : w3.frozen? ⟨jb, 1, none⟩ = false := by simp [World.frozen?, hbj]
                     have fz4 : w3.frozen? ⟨jb, 2, none⟩ = false := by simp [World.frozen?, hbj]
                     have hx3 : w3.cell? ⟨w.heap.size, 1, none⟩ = some (.bool false) := by rw [cell_of_row _ _ _ _ _ _ hxj]; rfl
                     have hown4 : w3.ownsRow (jb + 1) 5 1 v3 (l ++ d).length (U8 (l ++ d)) := by rw [List.length_append, HO.out.2, HH.out.2.2.2.2.2.2, U8_append]; exact hown3
                     have hj4 := (jn_set hbj hown4 (by rw [List.length_append, HH.out.2.2.2.2.2.2]; exact HS.out) HM.out.1).setW true
                     have hk4 := ((H2.out.2.1.grown hg3 (fun g e => .inl (hVQ.out g e).1)).setCell 1 v3).setCell 2 (.bool true)
                     have H3 := Lib.hid (And.intro hj4 (And.intro hk4 hat3))
                     have hown5 : w3.ownsRow (jb + 1) 5 1 v3 (q + k) (U8 (l ++ d)) := by rw [U8_append]; exact hown3
                     obtain ⟨vA3, vc3, rfl, _, _⟩ := Bs.of_own hown5
                     clear hown3 hown5 hown4 hj4 hk4 hg3 hat3 hbj hxj e0 e1 e2 y0 y1 y2)
        go_ret2
        rw [HH.out.1, if_pos trivial]
        refine ⟨.slice vA3 (q + k) vc3, rfl, H3.out.1, H3.out.2.1, ?_⟩
        · intro g hg
          rcases H3.out.2.2 with e | e
          · rw [e] at hg
            exact .inl (hVQ.out g hg).1
          · rw [e] at hg
            injection hg with hg
            exact .inr (by have := H2.out.2.2.2.2; omega)
    · have hEb : (E != 0) = true := bne_iff_ne.2 hE0
      have HE := Lib.hid hE0
      clear hE0
      go_wp2_with fail
      refine (jdrop_f jb most _ _ _ w2 H2.out.1).mono ?_
      rintro e w3 ⟨rfl, j3, k3⟩
      have H3 := Lib.hid (And.intro j3 (H2.out.2.1.trans k3 (fun g e => by cases e)))
      clear j3 k3 y0 y1 y2
      go_wp2
      go_ret2
      rw [HH.out.1, if_neg HE.out]
      exact ⟨.slice none 0 0, rfl, H3.out.1, H3.out.2, fun g hg => by cases hg⟩
theorem and1023 (x : Int) : ∃ r : Nat, r < 1024 ∧ bits .and .i64 x 1023 = (r : Int) := by
  refine ⟨(BitVec.ofInt 64 x &&& BitVec.ofInt 64 ((1023 : Nat) : Int)).toNat, ?_, ?_⟩
  · rw [BitVec.ofInt_natCast, BitVec.toNat_and, BitVec.toNat_ofNat]
    exact Nat.lt_of_le_of_lt Nat.and_le_right (by decide)
  · show IntKind.i64.wrap ((BitVec.ofInt 64 x &&& BitVec.ofInt 64 ((1023 : Nat) : Int)).toNat : Int) = _
    have h : (BitVec.ofInt 64 x &&& BitVec.ofInt 64 ((1023 : Nat) : Int)).toNat < 1024 := by
      rw [BitVec.ofInt_natCast, BitVec.toNat_and, BitVec.toNat_ofNat]
      exact Nat.lt_of_le_of_lt Nat.and_le_right (by decide)
    rw [IntWalk.i64_in _ (by omega)]
theorem size_right {s Z : Nat} (hs : s < 7) (hZ : Z = 16 * 2 ^ s) : powZ (Z : Int) = (s : Int) ∧ 16 ≤ Z ∧ Z ≤ 1024 := by
  subst hZ
  match s, hs with
  | 0, _ | 1, _ | 2, _ | 3, _ | 4, _ | 5, _ | 6, _ => decide
theorem right_of {N s Z : Nat} (hs : s < 7) (hZ : Z = 16 * 2 ^ s) (hN : N ≤ 1048575) : rightB (N : Int) (Z : Int) = true :=
  (right_iff _ _).2 ⟨by rw [(size_right hs hZ).1]; omega, by omega, by omega⟩
theorem blk_round {N s Z : Nat} (m : Bool) (hs : s < 7) (hZ : Z = 16 * 2 ^ s) (hN : N ≤ 1048575) : (blkW (N : Int) (Z : Int) m).2 = 0 ∧ blkR (blkW (N : Int) (Z : Int) m).1 = (((N : Int), m, (Z : Int)), 0) ∧ (blkW (N : Int) (Z : Int) m).1.length ≤ 3 := by
  have hr := right_of hs hZ hN
  have hp := (size_right hs hZ).1
  have hW : blkW (N : Int) (Z : Int) m = ((le (N * 16 + s + (moreN m).toNat)).reverse, 0) := by
    unfold blkW
    rw [if_pos hr, hp]
    cases m with
    | true => rw [show ((N : Int) * 16 + (s : Int) + moreN true).toNat = N * 16 + s + (moreN true).toNat by simp [moreN]; omega]
    | false => rw [show ((N : Int) * 16 + (s : Int) + moreN false).toNat = N * 16 + s + (moreN false).toNat by simp [moreN]; omega]
  have hm8 : (moreN m).toNat = if m then 8 else 0 := by cases m <;> rfl
  have hl3 : (le (N * 16 + s + (moreN m).toNat)).length ≤ 3 := le_len 3 _ (by
    show _ < 256 ^ 3
    rw [hm8]
    split <;> omega)
  rw [hW]
  refine ⟨rfl, ?_, by rw [List.length_reverse]; exact hl3⟩
  unfold blkR
  rw [if_neg (by rw [List.length_reverse]; omega), numOf_le, hm8]
  cases m with
  | true =>
    simp only [if_true]
    rw [if_neg (by omega), show (N * 16 + s + 8) / 16 = N by omega, show (N * 16 + s + 8) % 8 = s by omega, ← hZ, decide_eq_true (by omega)]
  | false =>
    simp only [Bool.false_eq_true, if_false]
    rw [if_neg (by omega), show (N * 16 + s + 0) / 16 = N by omega, show (N * 16 + s + 0) % 8 = s by omega, ← hZ, decide_eq_false (by omega)]
theorem cut_in {l : List UInt8} {i s Z T : Nat} (hs : s < 7) (hZ : Z = 16 * 2 ^ s) (hi : i ≤ 1048575) (hT : i * Z = T) (h : i = 0 ∨ T < l.length) : cutF l (i : Int) (Z : Int) = ((l.drop T).take Z, decide (T + Z < l.length), true) := by
  have hTI : (i : Int) * (Z : Int) = (T : Int) := by rw [← hT]; simp
  unfold cutF
  rw [if_pos (right_of hs hZ hi), hTI, Int.toNat_natCast, Int.toNat_natCast, if_neg (by omega), show decide ((T : Int) + (Z : Int) < (l.length : Int)) = decide (T + Z < l.length) from decide_eq_decide.2 (by omega)]
theorem cut_out {l : List UInt8} {i s Z T : Nat} (hs : s < 7) (hZ : Z = 16 * 2 ^ s) (hi : i ≤ 1048575) (hT : i * Z = T) (h0 : 0 < i) (h : l.length ≤ T) : cutF l (i : Int) (Z : Int) = ([], false, false) := by
  have hTI : (i : Int) * (Z : Int) = (T : Int) := by rw [← hT]; simp
  unfold cutF
  rw [if_pos (right_of hs hZ hi), hTI, if_pos (by omega)]
theorem chk_in {l : List UInt8} {most i s Z T k : Nat} {m : Bool} (hs : s < 7) (hZ : Z = 16 * 2 ^ s) (hi : i ≤ 1048575) (hT : i * Z = T) (hl : l.length = T) (hk : k ≤ Z) (hm : m = true → k = Z) (hmo : T + k ≤ most) : chkE most l false (i : Int) (Z : Int) m k = 0 := by
  have hTI : (i : Int) * (Z : Int) = (T : Int) := by rw [← hT]; simp
  unfold chkE
  rw [right_of hs hZ hi, if_neg (by simp), hTI, hl, if_neg (by simp), if_neg (by
    rintro (h | ⟨h1, h2⟩)
    · omega
    · have := hm h1; omega), if_neg (by omega)]
/-- A body's next block goes on where the ones ahead ended. -/
theorem put_in {l : List UInt8} {most i s Z T : Nat} (hs : s < 7) (hZ : Z = 16 * 2 ^ s) (hi : i ≤ 1048575) (hT : i * Z = T) (h : i = 0 ∨ T < l.length) (hmo : l.length ≤ most) :
    jput most (l.take T) false (i : Int) (Z : Int) (decide (T + Z < l.length)) ((l.drop T).take Z) = ((l.take (T + Z), !decide (T + Z < l.length)), !decide (T + Z < l.length), 0) := by
  have hz := size_right hs hZ
  have hTl : T ≤ l.length := by
    rcases h with h | h
    · subst h; omega
    · omega
  have h0 : (if (i : Int) = 0 then ([] : List UInt8) else l.take T) = l.take T := by
    by_cases e : i = 0
    · subst e
      have : T = 0 := by omega
      subst this
      simp
    · rw [if_neg (by omega)]
  have h1 : (if (i : Int) = 0 then false else false) = false := by split <;> rfl
  have hlk : ((l.drop T).take Z).length = min Z (l.length - T) := by rw [List.length_take, List.length_drop]
  have hc : chkE most (l.take T) false (i : Int) (Z : Int) (decide (T + Z < l.length)) ((l.drop T).take Z).length = 0 := by
    refine chk_in hs hZ hi hT (by rw [List.length_take]; omega) (by rw [hlk]; omega) (fun e => ?_) (by rw [hlk]; omega)
    have := of_decide_eq_true e
    rw [hlk]; omega
  unfold jput
  rw [h0, h1, hc, if_pos rfl, List.take_add]
theorem put_again {l d : List UInt8} {most i s Z T : Nat} {wh m : Bool} (hs : s < 7) (hZ : Z = 16 * 2 ^ s) (hi : i ≤ 1048575) (hT : i * Z = T) (h0 : 0 < i) (h : l.length ≠ T) : jput most l wh (i : Int) (Z : Int) m d = (([], false), false, 4) := by
  have hTI : (i : Int) * (Z : Int) = (T : Int) := by rw [← hT]; simp
  have hc : chkE most l wh (i : Int) (Z : Int) m d.length = 4 := by
    unfold chkE
    rw [right_of hs hZ hi, if_neg (by simp), hTI, if_pos (.inr (by omega))]
  have q1 : (if (i : Int) = 0 then ([] : List UInt8) else l) = l := if_neg (by omega)
  have q2 : (if (i : Int) = 0 then false else wh) = wh := if_neg (by omega)
  unfold jput
  rw [q1, q2, hc, if_neg (by decide)]
end Go.Proofs.Ytfbddldcbjhmiaa
