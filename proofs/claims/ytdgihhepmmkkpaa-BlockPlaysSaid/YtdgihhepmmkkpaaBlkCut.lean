/-
  The bytes of a body in a block: the program's and the document's.
-/
import Derived.Test.YtdgihhepmmkkpaaBlkVal
namespace Go.Proofs.Ytdgihhepmmkkpaa
open Go.RowKit
set_option maxRecDepth 100000
set_option linter.unusedVariables false
def cutF (l : List UInt8) (n z : Int) : List UInt8 × Bool × Bool :=
  if rightB n z then (if 0 < n ∧ (l.length : Int) ≤ n * z then ([], false, false) else ((l.drop (n * z).toNat).take z.toNat, decide (n * z + z < l.length), true)) else ([], false, false)
def CRet (r : List UInt8 × Bool × Bool) (w : World) (e : Ending) (w' : World) : Prop :=
  ∃ A k c, e = .returned (.tuple #[.slice A k c, .bool r.2.1, .bool r.2.2]) ∧ k ≤ c ∧ Hid (k = r.1.length) ∧ Bs w' w'.heap.size A k r.1 ∧ Below w.heap.size w w'
theorem CRet.nil {w w' : World} (hb : Below w.heap.size w w') : CRet ([], false, false) w (.returned (.tuple #[.slice none 0 0, .bool false, .bool false])) w' := ⟨none, 0, 0, rfl, Nat.le_refl _, rfl, Bs.empty _ _ _, hb⟩
theorem retT {a b c d : Bool} {v u : Value} (h1 : a = b) (h2 : c = d) (h3 : v = u) : Ending.returned (.tuple #[v, .bool a, .bool c]) = .returned (.tuple #[u, .bool b, .bool d]) := by rw [h1, h2, h3]
/-- What the numbers of a right block are. -/
theorem right_nat {n z : Int} (h : rightB n z = true) : ∃ N Z T : Nat, n = N ∧ z = Z ∧ N ≤ 1048575 ∧ 16 ≤ Z ∧ Z ≤ 1024 ∧ (N : Int) * (Z : Int) = (T : Int) ∧ T ≤ 1073740800 ∧ (N = 0 → T = 0) ∧ N * Z = T := by
  obtain ⟨hp, h0, h1⟩ := (right_iff n z).1 h
  obtain ⟨z0, z1⟩ := powZ_le z hp
  obtain ⟨N, rfl⟩ := Int.eq_ofNat_of_zero_le h0
  obtain ⟨Z, rfl⟩ := Int.eq_ofNat_of_zero_le (show 0 ≤ z by omega)
  refine ⟨N, Z, N * Z, rfl, rfl, by omega, by omega, by omega, by simp, ?_, fun e => by rw [e, Nat.zero_mul], rfl⟩
  have : N * Z ≤ 1048575 * 1024 := Nat.mul_le_mul (by omega) (by omega)
  omega
theorem toNat_T {N Z T : Nat} (h : (N : Int) * (Z : Int) = (T : Int)) : ((N : Int) * (Z : Int)).toNat = T := by rw [h, Int.toNat_natCast]
set_option maxHeartbeats 4000000 in
theorem bcut_f (A : Option Addr) (n c : Nat) (l : List UInt8) (w : World) (B : Nat) (hbs : Bs w B A n l) (hB : B ≤ w.heap.size) (hc : n ≤ c) (hcI : (c : Int) ≤ 9223372036854775807) (hnI : (n : Int) ≤ 1073741824) (nu z : Int) :
    Calls Try.prog 19 #[.slice A n c, .int .i64 nu, .int .i64 z] w (CRet (cutF l nu z) w) := by
  have hir := fun W => isRight_f nu z W
  have hl := hbs.len
  by_cases hr : rightB nu z = true
  · obtain ⟨N, Z, T, rfl, rfl, hN, hZ0, hZ1, hT, hTm, hT0, _⟩ := right_nat hr
    have hcF : cutF l N Z = if 0 < N ∧ n ≤ T then ([], false, false) else ((l.drop T).take Z, decide (T + Z < n), true) := by
      unfold cutF
      rw [if_pos hr, toNat_T hT, hT, hl, Int.toNat_natCast]
      by_cases h : 0 < N ∧ n ≤ T
      · rw [if_pos h, if_pos ⟨by omega, by omega⟩]
      · rw [if_neg h, if_neg (fun e => h ⟨by omega, by omega⟩), show decide ((T : Int) + (Z : Int) < (n : Int)) = decide (T + Z < n) from decide_eq_decide.2 (by omega)]
    rw [hcF]
    rw [hr] at hir
    have HI := Lib.hid hir
    clear hir hr hcF
    have hTI : (T : Int) ≤ 1073740800 := by omega
    have hZI : (Z : Int) ≤ 1024 := by omega
    have hNI : (N : Int) ≤ 1048575 := by omega
    by_cases h0 : 0 < N ∧ n ≤ T
    · rw [if_pos h0]
      have g0 : (0 : Int) < N := by omega
      have g1 : (n : Int) ≤ T := by omega
      clear hbs hl h0
      go_enter Try.func19, Try.ntmps19
      go_wp2_with (go_at_call 51; refine (HI.out _).mono ?_; rintro e w1 ⟨rfl, hw⟩; obtain rfl := hw.symm)
      go_ret3
      exact CRet.nil (Below.refl _ _)
    · rw [if_neg h0]
      have hTn : T ≤ n := by omega
      by_cases hn : n = 0
      · obtain rfl : N = 0 := by omega
        obtain rfl := hT0 rfl
        subst hn
        obtain rfl : l = [] := List.eq_nil_of_length_eq_zero hl
        have hcl := fun W (b : Below w.heap.size w W) => bclone_f A 0 c [] W B (hbs.below' b hB) (Nat.le_trans hB b.size) (by omega)
        have hq : ∀ x : Option Addr, Hid (∀ W (b : Below w.heap.size w W), Calls Try.prog 38 #[.slice x 0 c] W (RetOwn 5 [] W)) → True := fun _ _ => trivial
        have hr2 : ((([] : List UInt8).drop 0).take Z, decide (0 + Z < 0), true) = (([] : List UInt8), false, true) := by rw [List.drop_zero, List.take_nil, decide_eq_false (by omega)]
        rw [hr2]
        have hmin : min ((Z : Nat) : Int) (0 : Int) = 0 := by omega
        have HC := Lib.hid hcl
        clear hcl hbs hl hT h0 hT0 hr2 hq
        cases A with
        | none =>
          go_enter Try.func19, Try.ntmps19
          go_wp2_with (first
            | (go_at_call 51; refine (HI.out _).mono ?_; rintro e w1 ⟨rfl, hw⟩; obtain rfl := hw.symm)
            | (go_at_call 38; refine (HC.out _ (Below.refl _ _)).mono ?_; intro e w2 h2; obtain ⟨A2, n2, c2, rfl, hc2, hn2, hb2, b2⟩ := h2.slice_; have H2 := Lib.hid (And.intro hc2 (And.intro hn2 (And.intro hb2 b2))); clear h2 hc2 hn2 hb2 b2))
          go_ret3
          exact ⟨A2, n2, c2, rfl, H2.out.1, H2.out.2.1, H2.out.2.2.1, H2.out.2.2.2⟩
        | some ad =>
          go_enter Try.func19, Try.ntmps19
          go_wp2_with (first
            | (go_at_call 51; refine (HI.out _).mono ?_; rintro e w1 ⟨rfl, hw⟩; obtain rfl := hw.symm)
            | (go_at_call 38; refine (HC.out _ (Below.refl _ _)).mono ?_; intro e w2 h2; obtain ⟨A2, n2, c2, rfl, hc2, hn2, hb2, b2⟩ := h2.slice_; have H2 := Lib.hid (And.intro hc2 (And.intro hn2 (And.intro hb2 b2))); clear h2 hc2 hn2 hb2 b2))
          go_ret3
          exact ⟨A2, n2, c2, rfl, H2.out.1, H2.out.2.1, H2.out.2.2.1, H2.out.2.2.2⟩
      · obtain ⟨b, off, rfl, hbb, _⟩ := hbs.place (by omega)
        obtain ⟨E, hE, hEm, hEd⟩ : ∃ E : Nat, min ((T : Int) + (Z : Int)) (n : Int) = (E : Int) ∧ (T ≤ E ∧ E ≤ n) ∧ (l.take E).drop T = (l.drop T).take Z ∧ decide (E < n) = decide (T + Z < n) := by
          by_cases h : T + Z ≤ n
          · refine ⟨T + Z, by omega, by omega, ?_, decide_eq_decide.2 (by omega)⟩
            rw [List.drop_take, Nat.add_sub_cancel_left]
          · refine ⟨n, by omega, by omega, ?_, decide_eq_decide.2 (by omega)⟩
            rw [List.take_of_length_le (by omega), List.take_of_length_le (by rw [List.length_drop]; omega)]
        obtain ⟨hEd, hEx⟩ := hEd
        have hcT : c = T → T = 0 := fun e => by
          by_cases hz : N = 0
          · exact hT0 hz
          · omega
        have hcut := hbs.cut (lo := T) (hi := E) (c := c) hEm.1 hEm.2 hc (A' := some ⟨b, off + T, none⟩) (by
          by_cases h : c = T
          · rw [if_pos h, hcT h, Nat.add_zero]
          · rw [if_neg h]; simp [Addr.add])
        rw [hEd] at hcut
        obtain ⟨k, ik⟩ : ∃ k, E - T = k := ⟨_, rfl⟩
        obtain ⟨cT, icT⟩ : ∃ cT, c - T = cT := ⟨_, rfl⟩
        rw [ik] at hcut
        have hcl := fun W (b : Below w.heap.size w W) => bclone_f (some ⟨_, off + T, none⟩) k cT _ W B (hcut.below' b hB) (Nat.le_trans hB b.size) (by omega)
        have HC := Lib.hid (And.intro hcl hEx)
        have gE0 : (T : Int) ≤ E := by omega
        have gE1 : (E : Int) ≤ n := by omega
        have gE2 : (E : Int) ≤ c := by omega
        obtain ⟨V, hV⟩ : ∃ V : Nat, (T : Int) + (Z : Int) = V := ⟨T + Z, by omega⟩
        have hVm : (V : Int) ≤ 1073741824 := by omega
        rw [hV] at hE
        obtain ⟨X, hX⟩ : ∃ X, (l.drop T).take Z = X := ⟨_, rfl⟩
        rw [hX] at HC
        rw [hX]
        clear hcl hbs hl hEd hEx hcut hX hcT
        by_cases hN0 : N = 0
        · subst hN0
          obtain rfl := hT0 rfl
          rw [Nat.add_zero] at HC
          obtain rfl : Z = V := by omega
          obtain rfl : E = k := by omega
          obtain rfl : c = cT := by omega
          clear hT hT0 h0 ik icT hV
          go_enter Try.func19, Try.ntmps19
          go_wp2_with (first
            | (go_at_call 51; refine (HI.out _).mono ?_; rintro e w1 ⟨rfl, hw⟩; obtain rfl := hw.symm)
            | (go_at_call 38; refine (HC.out.1 _ (Below.refl _ _)).mono ?_; intro e w2 h2; obtain ⟨A2, n2, c2, rfl, hc2, hn2, hb2, b2⟩ := h2.slice_; have H2 := Lib.hid (And.intro hc2 (And.intro hn2 (And.intro hb2 b2))); clear h2 hc2 hn2 hb2 b2))
          go_ret3
          exact ⟨A2, n2, c2, retT HC.out.2 rfl rfl, H2.out.1, H2.out.2.1, H2.out.2.2.1, H2.out.2.2.2⟩
        · have g0 : (0 : Int) < N := by omega
          have g1 : ¬ (n : Int) ≤ T := by omega
          clear hT0 h0 hN0
          go_enter Try.func19, Try.ntmps19
          go_wp2_with (first
            | (go_at_call 51; refine (HI.out _).mono ?_; rintro e w1 ⟨rfl, hw⟩; obtain rfl := hw.symm)
            | (go_at_call 38; refine (HC.out.1 _ (Below.refl _ _)).mono ?_; intro e w2 h2; obtain ⟨A2, n2, c2, rfl, hc2, hn2, hb2, b2⟩ := h2.slice_; have H2 := Lib.hid (And.intro hc2 (And.intro hn2 (And.intro hb2 b2))); clear h2 hc2 hn2 hb2 b2))
          go_ret3
          exact ⟨A2, n2, c2, retT HC.out.2 rfl rfl, H2.out.1, H2.out.2.1, H2.out.2.2.1, H2.out.2.2.2⟩
  · have hcF : cutF l nu z = ([], false, false) := by unfold cutF; rw [if_neg hr]
    have hrf : rightB nu z = false := by simpa using hr
    rw [hrf] at hir
    rw [hcF]
    have HI := Lib.hid hir
    clear hir hr hcF hrf hbs hl
    go_enter Try.func19, Try.ntmps19
    go_wp2_with (go_at_call 51; refine (HI.out _).mono ?_; rintro e w1 ⟨rfl, hw⟩; obtain rfl := hw.symm)
    go_ret3
    exact CRet.nil (Below.refl _ _)
theorem lit_one (u : UInt8) : (#[Value.int .u8 (u.toNat : Int)] : Array Value).toList = U8 [u] := rfl
set_option maxHeartbeats 4000000 in
theorem rbcut_f (A : Option Addr) (n c : Nat) (l : List UInt8) (w : World) (B : Nat) (hbs : Bs w B A n l) (hB : B ≤ w.heap.size) (hc : n ≤ c) (hcI : (c : Int) ≤ 9223372036854775807) (hnI : (n : Int) ≤ 1073741824) (nu z : Int) :
    Calls Try.prog 20 #[.slice A n c, .int .i64 nu, .int .i64 z] w (CRet (cutF l nu z) w) := by
  have hir := fun W => right_f nu z W
  have hl := hbs.len
  by_cases hr : rightB nu z = true
  · obtain ⟨N, Z, T, rfl, rfl, hN, hZ0, hZ1, hT, hTm, hT0, hNZ⟩ := right_nat hr
    obtain ⟨i0, hi0, hz0, hz1, hz2⟩ := info_parts info_u8
    have hcF : cutF l N Z = if 0 < N ∧ n ≤ T then ([], false, false) else ((l.drop T).take Z, decide (T + Z < n), true) := by
      unfold cutF
      rw [if_pos hr, toNat_T hT, hT, hl, Int.toNat_natCast]
      by_cases h : 0 < N ∧ n ≤ T
      · rw [if_pos h, if_pos ⟨by omega, by omega⟩]
      · rw [if_neg h, if_neg (fun e => h ⟨by omega, by omega⟩), show decide ((T : Int) + (Z : Int) < (n : Int)) = decide (T + Z < n) from decide_eq_decide.2 (by omega)]
    obtain ⟨R, hR⟩ : ∃ R, cutF l N Z = R := ⟨_, rfl⟩
    rw [hR]
    have HRf := Lib.hid (hR.symm.trans hcF)
    rw [hr] at hir
    have HI := Lib.hid hir
    clear hir hr hcF hNZ hR
    have hTI : (T : Int) ≤ 1073740800 := by omega
    have hZI : (Z : Int) ≤ 1024 := by omega
    have hNI : (N : Int) ≤ 1048575 := by omega
    obtain ⟨V, hV⟩ : ∃ V : Nat, (T : Int) + (Z : Int) = V := ⟨T + Z, by omega⟩
    have hVm : (V : Int) ≤ 1073741824 := by omega
    have HL := Lib.hid (And.intro hbs hl)
    clear hbs hl
    go_enter Try.func20, Try.ntmps20
    go_wp2_with (go_at_call 46; refine (HI.out _).mono ?_; rintro e w1 ⟨rfl, hw⟩; obtain rfl := hw.symm)
    go_loopw [9, 10] (fun v i wr => ∃ k I : Nat, T + k = I ∧ k ≤ Z ∧ (I ≤ n ∨ k = 0) ∧ i = .int .i64 I ∧ wr.ownsRow w.heap.size 5 1 v k (U8 ((l.drop T).take k)) ∧ Below w.heap.size w wr) (fun _ i _ => V - (intOf i).toNat)
    case atStart =>
      exact ⟨0, T, rfl, by omega, .inr rfl, rfl, World.ownsRow_lit w #[] 0 (Nat.le_refl _) (by simp [maxLen]) rfl, alloc_below _ _⟩
    case round =>
      obtain ⟨k, I, hI, hk, hkn, rfl, hown, hbel⟩ := hrel
      have hsz := hbel.size
      have hIm : (I : Int) ≤ 1073741824 := by omega
      by_cases hgo : k < Z ∧ I < n
      · have hbs := (HL.out.1.below' hbel hB)
        obtain ⟨b, off, rfl, hbb, hcell⟩ := hbs.place (by omega)
        obtain ⟨u, hu⟩ := byte_get (l := l) (k := I) (by have := HL.out.2; omega)
        have ck := hcell I u hu
        have hud : (l.drop T)[k]? = some u := by rw [List.getElem?_drop, hI]; exact hu
        have hIV : (I : Int) < V := by omega
        have hIn : (I : Int) < n := by omega
        have hk32 : (k : Int) ≤ 1024 := by omega
        have HW := Lib.hid (And.intro hown (And.intro hbel (And.intro hud (And.intro hI hk))))
        have hkZ := hgo.1
        have ckx := fun o => ((alloc_below wr o).cell (p := ⟨b, off + I, none⟩) (by show b < _; omega)).trans ck
        clear hbs hcell hu hud hown hbel hkn hI hgo
        go_wp2_with (at_builtin; refine wpList_append_bs _ rfl (.tmp 34) (.tmp 39) 22 rfl w.heap.size 5 i0 Try.underlying22 hi0 hz0 hz1 hz2 _ k _ rfl (HW.out.1.alloc _) (wr.heap.size + 1) (some ⟨wr.heap.size, 0, none⟩) 1 1 [u] rfl (Bs.lit_ wr 5 _ _ _ (lit_one u)) (by omega) (by rw [alloc_size]; omega) ?_; intro v' w1 hown1 hgrow; have HY : Aside _ := And.intro hown1 ((HW.out.2.1.alloc hsz _).grown hgrow (by rw [alloc_size]; omega) (own_ge HW.out.1)); clear hown1 hgrow)
        go_roundw
        case rel =>
          refine ⟨k + 1, I + 1, by have := HW.out.2.2.2.1; omega, by omega, .inl (by omega), by first | rfl | go_num, ?_, HY.out.2⟩
          rw [← take_snoc_U8 HW.out.2.2.1]
          exact HY.out.1
        case measure => simp [intOf]; omega
      · have hX : (l.drop T).take k = (l.drop T).take Z := by
          have hl := HL.out.2
          by_cases e : k = Z
          · rw [e]
          · have : n ≤ I := by omega
            rw [List.take_of_length_le (by rw [List.length_drop]; omega), List.take_of_length_le (by rw [List.length_drop]; omega)]
        have hlen : ((l.drop T).take Z).length = k := by rw [← hX, List.length_take, List.length_drop, HL.out.2]; omega
        rw [hX] at hown
        have hk0 : k = 0 → n ≤ T := fun e => by omega
        have hkp : k ≠ 0 → ¬ (n ≤ T) := fun e => by omega
        obtain ⟨v9, c9, rfl, hc9, hb9⟩ := Bs.of_own hown
        have hst : ¬ (k < Z ∧ I < n) := hgo
        obtain ⟨X, hXX⟩ : ∃ X, (l.drop T).take Z = X := ⟨_, rfl⟩
        rw [hXX] at hb9 hlen
        have HX := Lib.hid (And.intro hc9 (And.intro hb9 (And.intro hbel hlen)))
        have hgx : ((I : Int) < V) → ¬ ((I : Int) < n) := fun a b => hgo ⟨by omega, by omega⟩
        clear hown hbel hX hc9 hb9 hlen hst hgo
        by_cases hNk : k = 0 ∧ 0 < N
        · obtain ⟨rfl, hN0⟩ := hNk
          have hRR : Hid (R = ([], false, false)) := by show R = _; rw [HRf.out, if_pos ⟨hN0, hk0 rfl⟩]
          have g0 : (0 : Int) < N := by omega
          have g1 : (I : Int) < V := by omega
          have g2 : ¬ (I : Int) < n := hgx g1
          clear hk0 hkp hgx hkn hI hN0 hXX
          go_wp2
          go_ret3
          rw [hRR.out]
          exact CRet.nil HX.out.2.2.1
        · have hne : ¬ (0 < N ∧ n ≤ T) := fun h => by
            by_cases e : k = 0
            · exact hNk ⟨e, h.1⟩
            · exact hkp e h.2
          have hRR : R = (X, decide (T + Z < n), true) := by rw [HRf.out, if_neg hne, hXX]
          have fin : ∀ (w' : World) (b : Bool), w' = wr → b = decide (T + Z < n) → CRet R w (.returned (.tuple #[.slice v9 k c9, .bool b, .bool true])) w' := fun w' b e eb => by
            subst e; subst eb
            rw [hRR]
            exact ⟨v9, k, c9, rfl, HX.out.1, HX.out.2.2.2.symm, HX.out.2.1, HX.out.2.2.1⟩
          have HF := Lib.hid fin
          clear hRR hXX
          have hVd : decide ((V : Int) < (n : Int)) = decide (T + Z < n) := decide_eq_decide.2 (by omega)
          have HV := Lib.hid hVd
          by_cases hk00 : k = 0
          · subst hk00
            obtain rfl : N = 0 := by omega
            obtain rfl := hT0 rfl
            have g1 : (I : Int) < V := by omega
            have g2 : ¬ (I : Int) < n := hgx g1
            have g3 : ((0 : Nat) : Int) * (Z : Int) = ((0 : Nat) : Int) := by simp
            clear hk0 hkp hgx hkn hI fin hVd hne hNk
            obtain rfl : Z = V := by omega
            clear hV
            go_wp2
            go_ret3
            exact HF.out _ _ rfl (by first | exact HV.out | (rw [← HV.out]; exact decide_eq_decide.2 (by omega)))
          · have g5 : ((k : Int) == 0) = false := beq_eq_false_iff_ne.2 (by omega)
            by_cases hIV : (I : Int) < V
            · have g2 : ¬ (I : Int) < n := hgx hIV
              clear hk0 hkp hgx hkn hI fin hVd hne hNk hk00
              go_wp2
              go_ret3
              exact HF.out _ _ rfl (by first | exact HV.out | (rw [← HV.out]; exact decide_eq_decide.2 (by omega)))
            · clear hk0 hkp hgx hkn hI fin hVd hne hNk hk00
              go_wp2
              go_ret3
              exact HF.out _ _ rfl (by first | exact HV.out | (rw [← HV.out]; exact decide_eq_decide.2 (by omega)))
  · have hcF : cutF l nu z = ([], false, false) := by unfold cutF; rw [if_neg hr]
    have hrf : rightB nu z = false := by simpa using hr
    rw [hrf] at hir
    rw [hcF]
    have HI := Lib.hid hir
    clear hir hr hcF hrf hbs hl
    go_enter Try.func20, Try.ntmps20
    go_wp2_with (go_at_call 46; refine (HI.out _).mono ?_; rintro e w1 ⟨rfl, hw⟩; obtain rfl := hw.symm)
    go_ret3
    exact CRet.nil (Below.refl _ _)
end Go.Proofs.Ytdgihhepmmkkpaa
