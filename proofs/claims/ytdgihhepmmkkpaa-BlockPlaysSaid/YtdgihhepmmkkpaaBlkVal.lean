/-
  Blocks as option's values, and back: the program's and the document's.
-/
import Derived.Test.YtdgihhepmmkkpaaBlk
import Derived.Test.YtdgihhepmmkkpaaOptRow
import Derived.BigQuiet
namespace Go.Proofs.Ytdgihhepmmkkpaa
open Go.RowKit
set_option maxRecDepth 100000
set_option linter.unusedVariables false
/-- Bytes and an error's number, in memory of the call's own. -/
def BRet (r : List UInt8 × Int) (w : World) (e : Ending) (w' : World) : Prop :=
  ∃ A n c, e = .returned (.tuple #[.slice A n c, .int .i64 r.2]) ∧ n ≤ c ∧ Hid (n = r.1.length) ∧ Bs w' w'.heap.size A n r.1 ∧ Below w.heap.size w w'
theorem BRet.nil {w w' : World} {er : Int} (hb : Below w.heap.size w w') : BRet ([], er) w (.returned (.tuple #[.slice none 0 0, .int .i64 er])) w' := ⟨none, 0, 0, rfl, Nat.le_refl _, rfl, Bs.empty _ _ _, hb⟩
theorem range_box (w : World) (cs : Array Value) (t : TypeId) {vs : List Value} (h : cs.toList = vs) : (w.alloc (.cells cs t)).rangeAt w.heap.size 0 vs := by
  intro j v hv
  rw [Nat.zero_add, cell_of_row _ _ _ _ _ _ (heap_alloc_new w _), ← hv, ← h, Array.getElem?_toList]
theorem results_ct {P : Program} {fn : Func} {p u : Tmp} {ty : TypeId} (h : fn.results = #[.cell p ty, .tmp u]) (tmps : Array Value) (w : World) (b o : Nat) (cs : List Value) (d : TypeDesc)
    (hp : tmps.getD p undef = .pointer (some ⟨b, o, none⟩)) (hc : w.rangeAt b o cs) (hu : P.underlying ty = some d) (hd : d.isRow = true) (hi : (P.info? ty).map (·.size) = some cs.length) :
    (results fn tmps).run P w = .ok (.tuple #[.agg cs.toArray, tmps.getD u undef]) w := by
  have hp' : tmps[p]?.getD undef = .pointer (some ⟨b, o, none⟩) := by simpa using hp
  simp [results, h, hp', asAddr, run_loadVar_mid w b o ty cs d hc hu hd hi]
theorem size_blk : (Try.prog.info? 37).map (·.size) = some 3 := by kernel_rfl
theorem size_rblk : (Try.prog.info? 42).map (·.size) = some 3 := by kernel_rfl
theorem one3 (a b : Int) (m : Bool) : ∀ v ∈ ([.int .i64 a, .bool m, .int .i64 b] : List Value), v.oneCell' = true := by
  intro v hv
  simp only [List.mem_cons, List.not_mem_nil, or_false] at hv
  rcases hv with rfl | rfl | rfl <;> rfl
theorem or4 (a x : Int) (a0 : 0 ≤ a) (ha : a < 281474976710656) (x0 : 0 ≤ x) (x1 : x < 16) : bits .or .i64 (a * 16) x = a * 16 + x := by
  obtain ⟨y, rfl⟩ := Int.eq_ofNat_of_zero_le a0
  obtain ⟨z, rfl⟩ := Int.eq_ofNat_of_zero_le x0
  show IntKind.i64.wrap ((BitVec.ofInt 64 ((y : Int) * 16) ||| BitVec.ofInt 64 (z : Int)).toNat : Int) = _
  rw [show (y : Int) * 16 = ((2 ^ 4 * y : Nat) : Int) by omega, BitVec.ofInt_natCast, BitVec.ofInt_natCast, BitVec.toNat_or, BitVec.toNat_ofNat, BitVec.toNat_ofNat, Nat.mod_eq_of_lt (by omega), Nat.mod_eq_of_lt (by omega), ← Nat.two_pow_add_eq_or_of_lt (by omega)]
  rw [IntWalk.i64_in _ (by omega)]; omega
theorem or8s : ∀ x : Nat, x < 8 → x ||| 8 = x + 8 := by decide
theorem or8 (a x : Int) (a0 : 0 ≤ a) (ha : a < 281474976710656) (x0 : 0 ≤ x) (x1 : x < 8) : bits .or .i64 (a * 16 + x) 8 = a * 16 + x + 8 := by
  obtain ⟨y, rfl⟩ := Int.eq_ofNat_of_zero_le a0
  obtain ⟨z, rfl⟩ := Int.eq_ofNat_of_zero_le x0
  have h : (2 ^ 4 * y + z) ||| 8 = 2 ^ 4 * y + (z + 8) := by
    rw [Nat.two_pow_add_eq_or_of_lt (i := 4) (b := z) (by omega), Nat.or_assoc, or8s z (by omega), ← Nat.two_pow_add_eq_or_of_lt (i := 4) (by omega)]
  show IntKind.i64.wrap ((BitVec.ofInt 64 ((y : Int) * 16 + (z : Int)) ||| BitVec.ofInt 64 ((8 : Nat) : Int)).toNat : Int) = _
  rw [show (y : Int) * 16 + (z : Int) = ((2 ^ 4 * y + z : Nat) : Int) by omega, BitVec.ofInt_natCast, BitVec.ofInt_natCast, BitVec.toNat_or, BitVec.toNat_ofNat, BitVec.toNat_ofNat, Nat.mod_eq_of_lt (by omega), Nat.mod_eq_of_lt (by omega), h]
  rw [IntWalk.i64_in _ (by omega)]; omega
theorem and7 (n : Nat) (hn : n < 281474976710656) : bits .and .i64 (n : Int) 7 = ((n % 8 : Nat) : Int) := by
  show IntKind.i64.wrap ((BitVec.ofInt 64 (n : Int) &&& BitVec.ofInt 64 ((7 : Nat) : Int)).toNat : Int) = _
  rw [BitVec.ofInt_natCast, BitVec.ofInt_natCast, BitVec.toNat_and, BitVec.toNat_ofNat, BitVec.toNat_ofNat, Nat.mod_eq_of_lt (by omega), Nat.mod_eq_of_lt (by omega), show n &&& 7 = n % 8 from Nat.and_two_pow_sub_one_eq_mod n 3]
  rw [IntWalk.i64_in _ (by omega)]
theorem and8 (n : Nat) (hn : n < 281474976710656) : bits .and .i64 (n : Int) 8 = ((n / 8 % 2 * 8 : Nat) : Int) := by
  show IntKind.i64.wrap ((BitVec.ofInt 64 (n : Int) &&& BitVec.ofInt 64 ((8 : Nat) : Int)).toNat : Int) = _
  have h : n &&& 8 = n / 8 % 2 * 8 := by
    have d : ∀ r : Nat, r < 16 → r &&& 8 = r / 8 % 2 * 8 := by decide
    rw [show n &&& 8 = (n &&& 15) &&& 8 by rw [Nat.and_assoc]; rfl, show n &&& 15 = n % 16 from Nat.and_two_pow_sub_one_eq_mod n 4, d _ (by omega)]
    omega
  rw [BitVec.ofInt_natCast, BitVec.ofInt_natCast, BitVec.toNat_and, BitVec.toNat_ofNat, BitVec.toNat_ofNat, Nat.mod_eq_of_lt (by omega), Nat.mod_eq_of_lt (by omega), h]
  rw [IntWalk.i64_in _ (by omega)]
def moreN (m : Bool) : Int := if m then 8 else 0
def blkW (n z : Int) (m : Bool) : List UInt8 × Int := if rightB n z then ((le (n * 16 + powZ z + moreN m).toNat).reverse, 0) else ([], 1)
theorem right_iff (n z : Int) : rightB n z = true ↔ 0 ≤ powZ z ∧ 0 ≤ n ∧ n ≤ 1048575 := by unfold rightB powB numB20; simp
set_option maxHeartbeats 2000000 in
theorem bwrite_f (n z : Int) (m : Bool) (w : World) : Calls Try.prog 14 #[.agg #[.int .i64 n, .bool m, .int .i64 z]] w (BRet (blkW n z m) w) := by
  have h1 := fun W => power_f z W
  have h2 := fun W => isNum_f n W
  by_cases hr : rightB n z = true
  · obtain ⟨hp, hn0, hn1⟩ := (right_iff n z).1 hr
    have hl := powZ_lo z
    obtain ⟨N, rfl⟩ := Int.eq_ofNat_of_zero_le hn0
    obtain ⟨s, hs⟩ := Int.eq_ofNat_of_zero_le hp
    have e1 : powS z = s := by unfold powS; rw [if_neg (by omega), hs]
    have e2 : powB z = true := by unfold powB; exact decide_eq_true hp
    have e3 : numB20 (N : Int) = true := by unfold numB20; exact decide_eq_true ⟨hn0, hn1⟩
    rw [e1, e2] at h1
    rw [e3] at h2
    have hs7 : s < 7 := by omega
    have ho := or4 (N : Int) (s : Int) (by omega) (by omega) (by omega) (by omega)
    have ho8 := or8 (N : Int) (s : Int) (by omega) (by omega) (by omega) (by omega)
    obtain ⟨V, hV⟩ : ∃ V : Nat, (N : Int) * 16 + (s : Int) = V := ⟨N * 16 + s, by omega⟩
    rw [hV] at ho ho8
    have ho8' : bits .or .i64 (V : Int) 8 = ((V + 8 : Nat) : Int) := by omega
    have hVm : (V : Int) ≤ 17000000 := by omega
    have hW : blkW N z m = ((le (V + (moreN m).toNat)).reverse, 0) := by
      unfold blkW
      rw [if_pos hr, hs, hV]
      cases m with
      | true => rw [show ((V : Int) + moreN true).toNat = V + (moreN true).toNat by simp [moreN]; omega]
      | false => rw [show ((V : Int) + moreN false).toNat = V + (moreN false).toNat by simp [moreN]]
    rw [hW]
    have hu := fun (K : Nat) (W : World) (hk : (K : Int) ≤ 20000000) => uint_f (K : Int) W (by omega)
    obtain ⟨V8, hV8⟩ : ∃ V8, V + 8 = V8 := ⟨_, rfl⟩
    rw [hV8] at ho8'
    have hV8m : (V8 : Int) ≤ 20000000 := by omega
    have hN : (N : Int) ≤ 1048575 := hn1
    have HA := Lib.hid (And.intro h1 (And.intro h2 (And.intro hu hV8)))
    clear h1 h2 hu hr hp hl hs e1 e2 e3 ho8 hW hn1 hs7 hV hV8
    cases m with
    | true =>
      go_enter Try.func14, Try.ntmps14
      go_wp2_with (first
        | (go_at_call 43; refine (HA.out.1 _).mono ?_; rintro e w1 ⟨rfl, hw⟩; obtain rfl := hw.symm)
        | (go_at_call 44; refine (HA.out.2.1 _).mono ?_; rintro e w1 ⟨rfl, hw⟩; obtain rfl := hw.symm)
        | (go_at_call 45; refine (HA.out.2.2.1 V8 _ (by omega)).mono ?_; intro e w2 h2; obtain ⟨A2, n2, c2, rfl, hc2, hn2, hb2, b2⟩ := h2.slice_; have H2 := Lib.hid (And.intro hc2 (And.intro hn2 (And.intro hb2 b2))); clear h2 hc2 hn2 hb2 b2))
      go_ret2
      rw [Int.toNat_natCast] at H2
      rw [show V + (moreN true).toNat = V8 from HA.out.2.2.2]
      exact ⟨A2, n2, c2, rfl, H2.out.1, H2.out.2.1, H2.out.2.2.1, (alloc_below w _).trans (H2.out.2.2.2.mono (by rw [alloc_size]; omega))⟩
    | false =>
      go_enter Try.func14, Try.ntmps14
      go_wp2_with (first
        | (go_at_call 43; refine (HA.out.1 _).mono ?_; rintro e w1 ⟨rfl, hw⟩; obtain rfl := hw.symm)
        | (go_at_call 44; refine (HA.out.2.1 _).mono ?_; rintro e w1 ⟨rfl, hw⟩; obtain rfl := hw.symm)
        | (go_at_call 45; refine (HA.out.2.2.1 V _ (by omega)).mono ?_; intro e w2 h2; obtain ⟨A2, n2, c2, rfl, hc2, hn2, hb2, b2⟩ := h2.slice_; have H2 := Lib.hid (And.intro hc2 (And.intro hn2 (And.intro hb2 b2))); clear h2 hc2 hn2 hb2 b2))
      go_ret2
      rw [Int.toNat_natCast] at H2
      rw [show V + (moreN false).toNat = V from rfl]
      exact ⟨A2, n2, c2, rfl, H2.out.1, H2.out.2.1, H2.out.2.2.1, (alloc_below w _).trans (H2.out.2.2.2.mono (by rw [alloc_size]; omega))⟩
  · have hW : blkW n z m = ([], 1) := by unfold blkW; rw [if_neg hr]
    rw [hW]
    have hf : (powB z = false) ∨ (powB z = true ∧ numB20 n = false) := by
      unfold rightB at hr
      cases hb : powB z with
      | false => exact .inl rfl
      | true => right; rw [hb] at hr; cases hq : numB20 n with
        | false => exact ⟨rfl, rfl⟩
        | true => rw [hq] at hr; exact absurd rfl hr
    generalize powS z = s at h1
    rcases hf with e | ⟨e, e2⟩
    · rw [e] at h1
      have HA := Lib.hid (And.intro h1 h2)
      clear h1 h2 hr e hW
      go_enter Try.func14, Try.ntmps14
      go_wp2_with (first
        | (go_at_call 43; refine (HA.out.1 _).mono ?_; rintro e w1 ⟨rfl, hw⟩; obtain rfl := hw.symm)
        | (go_at_call 44; refine (HA.out.2 _).mono ?_; rintro e w1 ⟨rfl, hw⟩; obtain rfl := hw.symm))
      go_ret2
      exact BRet.nil (alloc_below _ _)
    · rw [e] at h1
      rw [e2] at h2
      have HA := Lib.hid (And.intro h1 h2)
      clear h1 h2 hr e e2 hW
      go_enter Try.func14, Try.ntmps14
      go_wp2_with (first
        | (go_at_call 43; refine (HA.out.1 _).mono ?_; rintro e w1 ⟨rfl, hw⟩; obtain rfl := hw.symm)
        | (go_at_call 44; refine (HA.out.2 _).mono ?_; rintro e w1 ⟨rfl, hw⟩; obtain rfl := hw.symm))
      go_ret2
      exact BRet.nil (alloc_below _ _)
set_option maxHeartbeats 2000000 in
theorem rbwrite_f (n z : Int) (m : Bool) (w : World) : Calls Try.prog 15 #[.agg #[.int .i64 n, .bool m, .int .i64 z]] w (BRet (blkW n z m) w) := by
  have h1 := fun W => right_f n z W
  by_cases hr : rightB n z = true
  · obtain ⟨hp, hn0, hn1⟩ := (right_iff n z).1 hr
    have hl := powZ_lo z
    obtain ⟨N, rfl⟩ := Int.eq_ofNat_of_zero_le hn0
    obtain ⟨s, hs⟩ := Int.eq_ofNat_of_zero_le hp
    have hpw := fun W => rpower_f z W
    rw [hs] at hpw
    rw [hr] at h1
    have hs7 : s < 7 := by omega
    have hW : blkW N z m = ((le (N * 16 + s + (moreN m).toNat)).reverse, 0) := by
      unfold blkW
      rw [if_pos hr, hs]
      cases m with
      | true => rw [show ((N : Int) * 16 + (s : Int) + moreN true).toNat = N * 16 + s + (moreN true).toNat by simp [moreN]; omega]
      | false => rw [show ((N : Int) * 16 + (s : Int) + moreN false).toNat = N * 16 + s + (moreN false).toNat by simp [moreN]; omega]
    rw [hW]
    have hu := fun (K : Nat) (W : World) (hk : (K : Int) ≤ 20000000) => ruint_f K W (by omega)
    have hN : (N : Int) ≤ 1048575 := hn1
    have hsI : (s : Int) < 7 := by omega
    have HA := Lib.hid (And.intro h1 (And.intro hpw hu))
    clear h1 hpw hu hr hp hl hs hW hn1 hs7
    cases m with
    | true =>
      go_enter Try.func15, Try.ntmps15
      go_wp2_with (go_at_call 46; refine (HA.out.1 _).mono ?_; rintro e w1 ⟨rfl, hw⟩; obtain rfl := hw.symm)
      go_quiet ((go_at_call 47; exact Calls.quiet_of_same (HA.out.2.1 _)))
      have hcall := HA.out.2.2 (N * 16 + s + 8)
      rw [show (((N * 16 + s + 8) : Nat) : Int) = (N : Int) * 16 + (s : Int) + 8 by omega] at hcall
      have HC := Lib.hid hcall
      clear hcall
      go_wp2_with (go_at_call 48; refine (HC.out _ (by omega)).mono ?_; intro e w2 h2; obtain ⟨A2, n2, c2, rfl, hc2, hn2, hb2, b2⟩ := h2.slice_; have H2 := Lib.hid (And.intro hc2 (And.intro hn2 (And.intro hb2 b2))); clear h2 hc2 hn2 hb2 b2)
      go_ret2
      exact ⟨A2, n2, c2, rfl, H2.out.1, H2.out.2.1, H2.out.2.2.1, ((alloc_below w _).trans (drewN_below _ _ _)).trans (H2.out.2.2.2.mono (by show w.heap.size ≤ (World.alloc _ _).heap.size; rw [alloc_size]; omega))⟩
    | false =>
      go_enter Try.func15, Try.ntmps15
      go_wp2_with (go_at_call 46; refine (HA.out.1 _).mono ?_; rintro e w1 ⟨rfl, hw⟩; obtain rfl := hw.symm)
      go_quiet ((go_at_call 47; exact Calls.quiet_of_same (HA.out.2.1 _)))
      have hcall := HA.out.2.2 (N * 16 + s)
      rw [show (((N * 16 + s) : Nat) : Int) = (N : Int) * 16 + (s : Int) by omega] at hcall
      have HC := Lib.hid hcall
      clear hcall
      go_wp2_with (go_at_call 48; refine (HC.out _ (by omega)).mono ?_; intro e w2 h2; obtain ⟨A2, n2, c2, rfl, hc2, hn2, hb2, b2⟩ := h2.slice_; have H2 := Lib.hid (And.intro hc2 (And.intro hn2 (And.intro hb2 b2))); clear h2 hc2 hn2 hb2 b2)
      go_ret2
      exact ⟨A2, n2, c2, rfl, H2.out.1, H2.out.2.1, H2.out.2.2.1, ((alloc_below w _).trans (drewN_below _ _ _)).trans (H2.out.2.2.2.mono (by show w.heap.size ≤ (World.alloc _ _).heap.size; rw [alloc_size]; omega))⟩
  · have hW : blkW n z m = ([], 1) := by unfold blkW; rw [if_neg hr]
    rw [hW]
    have hf : rightB n z = false := by simpa using hr
    rw [hf] at h1
    have HA := Lib.hid h1
    clear h1 hr hf hW
    go_enter Try.func15, Try.ntmps15
    go_wp2_with (go_at_call 46; refine (HA.out _).mono ?_; rintro e w1 ⟨rfl, hw⟩; obtain rfl := hw.symm)
    go_ret2
    exact BRet.nil (alloc_below _ _)
theorem as_f (n z : Int) (m : Bool) (w : World) : Calls Try.prog 16 #[.agg #[.int .i64 n, .bool m, .int .i64 z]] w fun e w' => e = .returned (.agg #[.int .i64 n, .bool m, .int .i64 z]) ∧ Below w.heap.size w w' := by
  go_enter Try.func16, Try.ntmps16
  go_wp2
  refine bodyPost_ret (results_cell_mid rfl _ _ (w.heap.size + 1) 0 [.int .i64 n, .bool m, .int .i64 z] _ rfl (by have := range_new1 w (.cells #[.int .i64 n, .bool m, .int .i64 z] 37) #[.int .i64 n, .bool m, .int .i64 z] 42 rfl; exact this) Try.underlying42 rfl size_rblk) rfl ?_
  exact ⟨rfl, ((Below.refl _ _).alloc (Nat.le_refl _) _).alloc (by rw [alloc_size]; omega) _⟩
/-- A block: its number, whether more follow, its size; the error. -/
def blkR (l : List UInt8) : (Int × Bool × Int) × Int := if 3 < l.length then ((0, false, 0), 20) else if numOf l % 8 = 7 then ((0, false, 0), 20) else ((((numOf l / 16 : Nat) : Int), decide (numOf l / 8 % 2 = 1), ((16 * 2 ^ (numOf l % 8) : Nat) : Int)), 0)
def BRRet (r : (Int × Bool × Int) × Int) (w : World) (e : Ending) (w' : World) : Prop :=
  e = .returned (.tuple #[.agg #[.int .i64 r.1.1, .bool r.1.2.1, .int .i64 r.1.2.2], .int .i64 r.2]) ∧ Below w.heap.size w w'
/-- The cell of what is returned. -/
structure Z3 (w W : World) (t : TypeId) : Prop where
  there : W.there w.heap.size 0 3
  bel : Below w.heap.size w W
theorem Z3.new_ (w : World) (t : TypeId) (cs : Array Value) (h : cs.size = 3) : Z3 w (w.alloc (.cells cs t)) t := ⟨there_new w _ _ h, alloc_below w _⟩
theorem Z3.stored {w W : World} {t : TypeId} (h : Z3 w W t) (vs : List Value) (hl : vs.length = 3) : (W.setCells w.heap.size 0 vs).rangeAt w.heap.size 0 vs ∧ Below w.heap.size w (W.setCells w.heap.size 0 vs) :=
  ⟨World.rangeAt_setCells_same _ _ _ _ (by rw [hl]; exact h.there), below_setCells h.bel (Nat.le_refl _) _ _⟩
set_option maxHeartbeats 4000000 in
theorem bread_f (A : Option Addr) (n c : Nat) (l : List UInt8) (w : World) (B : Nat) (hbs : Bs w B A n l) (hB : B ≤ w.heap.size) :
    Calls Try.prog 17 #[.slice A n c] w (BRRet (blkR l) w) := by
  have hl := hbs.len
  have HZ := Lib.hid (Z3.new_ w 37 #[.int .i64 0, .bool false, .int .i64 0] rfl)
  by_cases h3 : (3 : Int) < n
  · have hr : blkR l = ((0, false, 0), 20) := by unfold blkR; rw [if_pos (by omega)]
    rw [hr]
    clear hbs hl hr
    go_enter Try.func17, Try.ntmps17
    go_wp2
    have hst := HZ.out.stored [.int .i64 0, .bool false, .int .i64 0] rfl
    refine bodyPost_ret (results_ct rfl _ _ w.heap.size 0 [.int .i64 0, .bool false, .int .i64 0] _ rfl (by first | exact hst.1 | exact range_box w _ _ rfl) Try.underlying37 rfl size_blk) rfl ?_
    exact ⟨rfl, by first | exact hst.2 | exact alloc_below _ _⟩
  · have hnum := fun W (b : Below w.heap.size w W) => number_f A n c l W B (hbs.below' b hB)
    have hlt := numOf_lt l
    have hp := Nat.pow_le_pow_right (n := 256) (by decide) (show l.length ≤ 3 by omega)
    have hk : (256 : Nat) ^ 3 = 16777216 := by decide
    have hN : numOf l < 16777216 := by omega
    have hnb : numB l = ((numOf l : Int), true) := by unfold numB; rw [if_neg (by omega)]
    rw [hnb] at hnum
    have hr : blkR l = if numOf l % 8 = 7 then ((0, false, 0), 20) else ((((numOf l / 16 : Nat) : Int), decide (numOf l / 8 % 2 = 1), ((16 * 2 ^ (numOf l % 8) : Nat) : Int)), 0) := by unfold blkR; rw [if_neg (by omega)]
    rw [hr]
    generalize numOf l = N at *
    have a7 := and7 N (by omega)
    have a8 := and8 N (by omega)
    have hd8 : (N / 8 % 2 = 1 ∧ bits .and .i64 (N : Int) 8 = 8) ∨ (N / 8 % 2 = 0 ∧ bits .and .i64 (N : Int) 8 = 0) := by
      rcases Nat.mod_two_eq_zero_or_one (N / 8) with e | e
      · exact .inr ⟨e, by rw [a8, e]; rfl⟩
      · exact .inl ⟨e, by rw [a8, e]; rfl⟩
    have hNI : (N : Int) < 16777216 := by omega
    have HA := Lib.hid hnum
    clear hnum hlt hp hk hN hnb hr a8 hbs hl
    have h8 : N % 8 < 8 := Nat.mod_lt _ (by decide)
    obtain ⟨s, hs⟩ : ∃ s, N % 8 = s := ⟨_, rfl⟩
    rw [hs] at a7 h8 ⊢
    clear hs
    rcases (by omega : s = 0 ∨ s = 1 ∨ s = 2 ∨ s = 3 ∨ s = 4 ∨ s = 5 ∨ s = 6 ∨ s = 7) with rfl | rfl | rfl | rfl | rfl | rfl | rfl | rfl
    · rw [if_neg (by decide)]
      rcases hd8 with ⟨e8, a8⟩ | ⟨e8, a8⟩
      · rw [show decide (N / 8 % 2 = 1) = true by rw [e8]; rfl]
        clear e8
        go_enter Try.func17, Try.ntmps17
        go_wp2_with (go_at_call 49; refine (HA.out _ (alloc_below _ _)).mono ?_; rintro e w1 ⟨rfl, hw⟩; obtain rfl := hw.symm)
        refine bodyPost_ret (results_ct rfl _ _ w.heap.size 0 [.int .i64 ((N / 16 : Nat) : Int), .bool true, .int .i64 16] _ rfl (by first | exact range_box w _ _ rfl | exact (HZ.out.stored _ rfl).1) Try.underlying37 rfl size_blk) rfl ?_
        exact ⟨rfl, by first | exact alloc_below _ _ | exact (HZ.out.stored _ rfl).2⟩
      · rw [show decide (N / 8 % 2 = 1) = false by rw [e8]; rfl]
        clear e8
        go_enter Try.func17, Try.ntmps17
        go_wp2_with (go_at_call 49; refine (HA.out _ (alloc_below _ _)).mono ?_; rintro e w1 ⟨rfl, hw⟩; obtain rfl := hw.symm)
        refine bodyPost_ret (results_ct rfl _ _ w.heap.size 0 [.int .i64 ((N / 16 : Nat) : Int), .bool false, .int .i64 16] _ rfl (by first | exact range_box w _ _ rfl | exact (HZ.out.stored _ rfl).1) Try.underlying37 rfl size_blk) rfl ?_
        exact ⟨rfl, by first | exact alloc_below _ _ | exact (HZ.out.stored _ rfl).2⟩
    · rw [if_neg (by decide)]
      rcases hd8 with ⟨e8, a8⟩ | ⟨e8, a8⟩
      · rw [show decide (N / 8 % 2 = 1) = true by rw [e8]; rfl]
        clear e8
        go_enter Try.func17, Try.ntmps17
        go_wp2_with (go_at_call 49; refine (HA.out _ (alloc_below _ _)).mono ?_; rintro e w1 ⟨rfl, hw⟩; obtain rfl := hw.symm)
        refine bodyPost_ret (results_ct rfl _ _ w.heap.size 0 [.int .i64 ((N / 16 : Nat) : Int), .bool true, .int .i64 32] _ rfl (by first | exact range_box w _ _ rfl | exact (HZ.out.stored _ rfl).1) Try.underlying37 rfl size_blk) rfl ?_
        exact ⟨rfl, by first | exact alloc_below _ _ | exact (HZ.out.stored _ rfl).2⟩
      · rw [show decide (N / 8 % 2 = 1) = false by rw [e8]; rfl]
        clear e8
        go_enter Try.func17, Try.ntmps17
        go_wp2_with (go_at_call 49; refine (HA.out _ (alloc_below _ _)).mono ?_; rintro e w1 ⟨rfl, hw⟩; obtain rfl := hw.symm)
        refine bodyPost_ret (results_ct rfl _ _ w.heap.size 0 [.int .i64 ((N / 16 : Nat) : Int), .bool false, .int .i64 32] _ rfl (by first | exact range_box w _ _ rfl | exact (HZ.out.stored _ rfl).1) Try.underlying37 rfl size_blk) rfl ?_
        exact ⟨rfl, by first | exact alloc_below _ _ | exact (HZ.out.stored _ rfl).2⟩
    · rw [if_neg (by decide)]
      rcases hd8 with ⟨e8, a8⟩ | ⟨e8, a8⟩
      · rw [show decide (N / 8 % 2 = 1) = true by rw [e8]; rfl]
        clear e8
        go_enter Try.func17, Try.ntmps17
        go_wp2_with (go_at_call 49; refine (HA.out _ (alloc_below _ _)).mono ?_; rintro e w1 ⟨rfl, hw⟩; obtain rfl := hw.symm)
        refine bodyPost_ret (results_ct rfl _ _ w.heap.size 0 [.int .i64 ((N / 16 : Nat) : Int), .bool true, .int .i64 64] _ rfl (by first | exact range_box w _ _ rfl | exact (HZ.out.stored _ rfl).1) Try.underlying37 rfl size_blk) rfl ?_
        exact ⟨rfl, by first | exact alloc_below _ _ | exact (HZ.out.stored _ rfl).2⟩
      · rw [show decide (N / 8 % 2 = 1) = false by rw [e8]; rfl]
        clear e8
        go_enter Try.func17, Try.ntmps17
        go_wp2_with (go_at_call 49; refine (HA.out _ (alloc_below _ _)).mono ?_; rintro e w1 ⟨rfl, hw⟩; obtain rfl := hw.symm)
        refine bodyPost_ret (results_ct rfl _ _ w.heap.size 0 [.int .i64 ((N / 16 : Nat) : Int), .bool false, .int .i64 64] _ rfl (by first | exact range_box w _ _ rfl | exact (HZ.out.stored _ rfl).1) Try.underlying37 rfl size_blk) rfl ?_
        exact ⟨rfl, by first | exact alloc_below _ _ | exact (HZ.out.stored _ rfl).2⟩
    · rw [if_neg (by decide)]
      rcases hd8 with ⟨e8, a8⟩ | ⟨e8, a8⟩
      · rw [show decide (N / 8 % 2 = 1) = true by rw [e8]; rfl]
        clear e8
        go_enter Try.func17, Try.ntmps17
        go_wp2_with (go_at_call 49; refine (HA.out _ (alloc_below _ _)).mono ?_; rintro e w1 ⟨rfl, hw⟩; obtain rfl := hw.symm)
        refine bodyPost_ret (results_ct rfl _ _ w.heap.size 0 [.int .i64 ((N / 16 : Nat) : Int), .bool true, .int .i64 128] _ rfl (by first | exact range_box w _ _ rfl | exact (HZ.out.stored _ rfl).1) Try.underlying37 rfl size_blk) rfl ?_
        exact ⟨rfl, by first | exact alloc_below _ _ | exact (HZ.out.stored _ rfl).2⟩
      · rw [show decide (N / 8 % 2 = 1) = false by rw [e8]; rfl]
        clear e8
        go_enter Try.func17, Try.ntmps17
        go_wp2_with (go_at_call 49; refine (HA.out _ (alloc_below _ _)).mono ?_; rintro e w1 ⟨rfl, hw⟩; obtain rfl := hw.symm)
        refine bodyPost_ret (results_ct rfl _ _ w.heap.size 0 [.int .i64 ((N / 16 : Nat) : Int), .bool false, .int .i64 128] _ rfl (by first | exact range_box w _ _ rfl | exact (HZ.out.stored _ rfl).1) Try.underlying37 rfl size_blk) rfl ?_
        exact ⟨rfl, by first | exact alloc_below _ _ | exact (HZ.out.stored _ rfl).2⟩
    · rw [if_neg (by decide)]
      rcases hd8 with ⟨e8, a8⟩ | ⟨e8, a8⟩
      · rw [show decide (N / 8 % 2 = 1) = true by rw [e8]; rfl]
        clear e8
        go_enter Try.func17, Try.ntmps17
        go_wp2_with (go_at_call 49; refine (HA.out _ (alloc_below _ _)).mono ?_; rintro e w1 ⟨rfl, hw⟩; obtain rfl := hw.symm)
        refine bodyPost_ret (results_ct rfl _ _ w.heap.size 0 [.int .i64 ((N / 16 : Nat) : Int), .bool true, .int .i64 256] _ rfl (by first | exact range_box w _ _ rfl | exact (HZ.out.stored _ rfl).1) Try.underlying37 rfl size_blk) rfl ?_
        exact ⟨rfl, by first | exact alloc_below _ _ | exact (HZ.out.stored _ rfl).2⟩
      · rw [show decide (N / 8 % 2 = 1) = false by rw [e8]; rfl]
        clear e8
        go_enter Try.func17, Try.ntmps17
        go_wp2_with (go_at_call 49; refine (HA.out _ (alloc_below _ _)).mono ?_; rintro e w1 ⟨rfl, hw⟩; obtain rfl := hw.symm)
        refine bodyPost_ret (results_ct rfl _ _ w.heap.size 0 [.int .i64 ((N / 16 : Nat) : Int), .bool false, .int .i64 256] _ rfl (by first | exact range_box w _ _ rfl | exact (HZ.out.stored _ rfl).1) Try.underlying37 rfl size_blk) rfl ?_
        exact ⟨rfl, by first | exact alloc_below _ _ | exact (HZ.out.stored _ rfl).2⟩
    · rw [if_neg (by decide)]
      rcases hd8 with ⟨e8, a8⟩ | ⟨e8, a8⟩
      · rw [show decide (N / 8 % 2 = 1) = true by rw [e8]; rfl]
        clear e8
        go_enter Try.func17, Try.ntmps17
        go_wp2_with (go_at_call 49; refine (HA.out _ (alloc_below _ _)).mono ?_; rintro e w1 ⟨rfl, hw⟩; obtain rfl := hw.symm)
        refine bodyPost_ret (results_ct rfl _ _ w.heap.size 0 [.int .i64 ((N / 16 : Nat) : Int), .bool true, .int .i64 512] _ rfl (by first | exact range_box w _ _ rfl | exact (HZ.out.stored _ rfl).1) Try.underlying37 rfl size_blk) rfl ?_
        exact ⟨rfl, by first | exact alloc_below _ _ | exact (HZ.out.stored _ rfl).2⟩
      · rw [show decide (N / 8 % 2 = 1) = false by rw [e8]; rfl]
        clear e8
        go_enter Try.func17, Try.ntmps17
        go_wp2_with (go_at_call 49; refine (HA.out _ (alloc_below _ _)).mono ?_; rintro e w1 ⟨rfl, hw⟩; obtain rfl := hw.symm)
        refine bodyPost_ret (results_ct rfl _ _ w.heap.size 0 [.int .i64 ((N / 16 : Nat) : Int), .bool false, .int .i64 512] _ rfl (by first | exact range_box w _ _ rfl | exact (HZ.out.stored _ rfl).1) Try.underlying37 rfl size_blk) rfl ?_
        exact ⟨rfl, by first | exact alloc_below _ _ | exact (HZ.out.stored _ rfl).2⟩
    · rw [if_neg (by decide)]
      rcases hd8 with ⟨e8, a8⟩ | ⟨e8, a8⟩
      · rw [show decide (N / 8 % 2 = 1) = true by rw [e8]; rfl]
        clear e8
        go_enter Try.func17, Try.ntmps17
        go_wp2_with (go_at_call 49; refine (HA.out _ (alloc_below _ _)).mono ?_; rintro e w1 ⟨rfl, hw⟩; obtain rfl := hw.symm)
        refine bodyPost_ret (results_ct rfl _ _ w.heap.size 0 [.int .i64 ((N / 16 : Nat) : Int), .bool true, .int .i64 1024] _ rfl (by first | exact range_box w _ _ rfl | exact (HZ.out.stored _ rfl).1) Try.underlying37 rfl size_blk) rfl ?_
        exact ⟨rfl, by first | exact alloc_below _ _ | exact (HZ.out.stored _ rfl).2⟩
      · rw [show decide (N / 8 % 2 = 1) = false by rw [e8]; rfl]
        clear e8
        go_enter Try.func17, Try.ntmps17
        go_wp2_with (go_at_call 49; refine (HA.out _ (alloc_below _ _)).mono ?_; rintro e w1 ⟨rfl, hw⟩; obtain rfl := hw.symm)
        refine bodyPost_ret (results_ct rfl _ _ w.heap.size 0 [.int .i64 ((N / 16 : Nat) : Int), .bool false, .int .i64 1024] _ rfl (by first | exact range_box w _ _ rfl | exact (HZ.out.stored _ rfl).1) Try.underlying37 rfl size_blk) rfl ?_
        exact ⟨rfl, by first | exact alloc_below _ _ | exact (HZ.out.stored _ rfl).2⟩
    · rw [if_pos rfl]
      clear hd8
      go_enter Try.func17, Try.ntmps17
      go_wp2_with (go_at_call 49; refine (HA.out _ (alloc_below _ _)).mono ?_; rintro e w1 ⟨rfl, hw⟩; obtain rfl := hw.symm)
      refine bodyPost_ret (results_ct rfl _ _ w.heap.size 0 [.int .i64 0, .bool false, .int .i64 0] _ rfl (by first | exact range_box w _ _ rfl | exact (HZ.out.stored _ rfl).1) Try.underlying37 rfl size_blk) rfl ?_
      exact ⟨rfl, by first | exact alloc_below _ _ | exact (HZ.out.stored _ rfl).2⟩
end Go.Proofs.Ytdgihhepmmkkpaa
