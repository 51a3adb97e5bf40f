/-
  The document's bytes as signs of six bits each.
-/
import Derived.Test.YtbclgalocipmfaaDoorPlLetter
namespace Go.Proofs.YtbclgalocipmfaaDoor
open Go.RowKit
set_option maxRecDepth 100000
set_option maxRecDepth 100000
set_option linter.unusedVariables false
def letU (n : Nat) : UInt8 := UInt8.ofNat (letQ n)
theorem letU_val {n : Nat} (h : n < 64) : ((letU n).toNat : Int) = (letQ n : Int) := by
  have := letQ_lt h
  unfold letU
  rw [UInt8.toNat_ofNat']
  omega
/-- The signs of the highest bits, of n bits. -/
def ltrs (B : Nat) : Nat → Nat → List UInt8
  | 0, _ => []
  | f + 1, n => if 6 ≤ n then letU (B / 2 ^ (n - 6) % 64) :: ltrs B f (n - 6) else []
def b64S (st : Nat × Nat × List UInt8) (u : UInt8) : Nat × Nat × List UInt8 := ((st.1 * 256 + u.toNat) % 64, (st.2.1 + 8) % 6, st.2.2 ++ ltrs (st.1 * 256 + u.toNat) 3 (st.2.1 + 8))
def b64F (l : List UInt8) : Nat × Nat × List UInt8 := l.foldl b64S (0, 0, [])
def b64E (st : Nat × Nat × List UInt8) : List UInt8 := st.2.2 ++ (if 0 < st.2.1 then [letU (st.1 * 2 ^ (6 - st.2.1) % 64)] else [])
def b64P (l : List UInt8) : List UInt8 := l ++ List.replicate ((4 - l.length % 4) % 4) 61
def b64Q (l : List UInt8) : List UInt8 := b64P (b64E (b64F l))
theorem ltrs_step {B f n : Nat} (h : 6 ≤ n) : ltrs B (f + 1) n = letU (B / 2 ^ (n - 6) % 64) :: ltrs B f (n - 6) := by
  show (if 6 ≤ n then _ else _) = _
  rw [if_pos h]
theorem ltrs_end {B f n : Nat} (h : ¬ 6 ≤ n) : ltrs B f n = [] := by
  cases f with
  | zero => rfl
  | succ f => show (if 6 ≤ n then _ else _) = _; rw [if_neg h]
theorem b64F_snoc (l : List UInt8) (u : UInt8) : b64F (l ++ [u]) = b64S (b64F l) u := by unfold b64F; rw [List.foldl_append]; rfl
theorem b64F_take {l : List UInt8} {k : Nat} {u : UInt8} (h : l[k]? = some u) : b64F (l.take (k + 1)) = b64S (b64F (l.take k)) u := by
  rw [List.take_add_one, h]; exact b64F_snoc _ _
theorem b64F_ok (l : List UInt8) : (b64F l).1 < 64 ∧ (b64F l).2.1 < 6 ∧ (b64F l).2.2.length ≤ 2 * l.length := by
  suffices h : ∀ k, k ≤ l.length → (b64F (l.take k)).1 < 64 ∧ (b64F (l.take k)).2.1 < 6 ∧ (b64F (l.take k)).2.2.length ≤ 2 * k by
    have := h l.length (Nat.le_refl _)
    rwa [List.take_length] at this
  intro k
  induction k with
  | zero => intro _; exact ⟨(by show (0 : Nat) < 64; omega), (by show (0 : Nat) < 6; omega), Nat.le_refl _⟩
  | succ k ih =>
    intro hk
    obtain ⟨u, hu⟩ : ∃ u, l[k]? = some u := ⟨_, List.getElem?_eq_getElem (by omega)⟩
    rw [b64F_take hu]
    obtain ⟨h1, h2, h3⟩ := ih (by omega)
    refine ⟨Nat.mod_lt _ (by decide), Nat.mod_lt _ (by decide), ?_⟩
    have : ∀ f n B, n < 18 → (ltrs B f n).length ≤ n / 6 := by
      intro f
      induction f with
      | zero => intro n B _; exact Nat.zero_le _
      | succ f ih =>
        intro n B hn
        by_cases h : 6 ≤ n
        · rw [ltrs_step h, List.length_cons]
          have := ih (n - 6) B (by omega)
          omega
        · rw [ltrs_end h]; exact Nat.zero_le _
    have h4 := this 3 ((b64F (l.take k)).2.1 + 8) ((b64F (l.take k)).1 * 256 + u.toNat) (by omega)
    show ((b64F (l.take k)).2.2 ++ _).length ≤ _
    rw [List.length_append]
    omega
theorem b64P_end {l : List UInt8} (h : l.length % 4 = 0) : b64P l = l := by
  unfold b64P
  rw [h, show (4 - 0) % 4 = 0 from rfl]
  exact List.append_nil _
theorem b64P_step {l : List UInt8} (h : l.length % 4 ≠ 0) : b64P l = b64P (l ++ [61]) := by
  unfold b64P
  rw [List.append_assoc, List.length_append]
  congr 1
  have e : (4 - l.length % 4) % 4 = (4 - (l.length + [(61 : UInt8)].length) % 4) % 4 + 1 := by simp only [List.length_cons, List.length_nil]; omega
  rw [e, List.replicate_succ]
  rfl
def lenOf (v : Value) : Nat := match v with | .slice _ n _ => n | _ => 0
theorem own_slice {w : World} {base n : Nat} {v : Value} {l : List UInt8} (h : w.ownsRow base 5 1 v n (U8 l)) : ∃ A c, v = .slice A n c ∧ n ≤ c := by
  have hl : l.length = n := by have := h.1; rw [U8_length] at this; omega
  obtain ⟨A, c, e, hc, _⟩ := Bs.of_own (l := l) (n := n) h
  exact ⟨A, c, e, hc⟩
theorem and63b (x : Int) : bits .and .i64 x 63 = x % 64 := by
  show IntKind.i64.wrap ((BitVec.ofInt 64 x &&& BitVec.ofInt 64 63).toNat : Int) = x % 64
  rw [BitVec.toNat_and, show (BitVec.ofInt 64 63).toNat = 2 ^ 6 - 1 from rfl, Nat.and_two_pow_sub_one_eq_mod, BitVec.toNat_ofInt, IntWalk.i64_in _ (by omega)]
  omega
set_option maxHeartbeats 8000000 in
theorem rbase_f (A : Option Addr) (n c : Nat) (l : List UInt8) (w : World) (B : Nat) (hbs : Bs w B A n l) (hB : B ≤ w.heap.size) (hn : n ≤ 1000000) :
    Calls Tryd.prog 73 #[.slice A n c] w fun e w' => e = .returned (.string ⟨(b64Q l).toArray⟩) ∧ Below w.heap.size w w' := by
  obtain ⟨i0, hi0, hz0, hz1, hz2⟩ := info_parts info_u8
  have hlen := Lib.hid hbs.len
  have hnI : (n : Int) ≤ 1000000 := by omega
  have ha63 := and63b
  go_enter Tryd.func73, Tryd.ntmps73
  go_wp2
  go_loopw [3, 4, 5, 6] (fun v3 v4 v5 v6 wr => ∃ (k b m N c' : Nat) (A' : Option Addr), v3 = .slice A' N c' ∧ v4 = .int .i64 (b : Int) ∧ v5 = .int .i64 (m : Int) ∧ v6 = .int .i64 (k : Int) ∧ k ≤ n ∧ b < 64 ∧ (m < 6 ∧ m % 2 = 0) ∧ N ≤ 2 * k ∧ Aside (∃ O, b64F (l.take k) = (b, m, O) ∧ wr.ownsRow w.heap.size 5 1 (.slice A' N c') N (U8 O) ∧ Below w.heap.size w wr)) (fun _ _ _ v6 _ => n - (intOf v6).toNat)
  case atStart => exact ⟨0, 0, 0, 0, _, _, rfl, rfl, rfl, rfl, Nat.zero_le _, by decide, ⟨by decide, by decide⟩, Nat.le_refl _, (show Aside _ from ⟨[], rfl, World.ownsRow_lit w #[] 0 (Nat.le_refl _) (by simp [maxLen]) rfl, (Below.refl _ _).alloc (Nat.le_refl _) _⟩)⟩
  case round =>
    obtain ⟨k, b, m, N, c', A', rfl, rfl, rfl, rfl, hk, hb64, ⟨hm6, hm2⟩, hN, hrel⟩ := hrel
    obtain ⟨O, hO, hown, hbel⟩ := hrel.out
    have hsz := hbel.size
    clear hrel
    by_cases hlt : k < n
    · have hbs1 := hbs.below' hbel hB
      obtain ⟨bb, off, rfl, hb, hc⟩ := hbs1.place (by omega)
      obtain ⟨u, hu⟩ := byte_get (l := l) (k := k) (by rw [hlen.out]; omega)
      have hck := hc k u hu
      have hul : u.toNat < 256 := u.toNat_lt
      have hst := b64F_take hu
      rw [hO] at hst
      obtain ⟨x, hx⟩ : ∃ x, u.toNat = x := ⟨_, rfl⟩
      rw [hx] at hck hul
      obtain ⟨Bt, hBt⟩ : ∃ Bt, b * 256 + x = Bt := ⟨_, rfl⟩
      have hBtI : (b : Int) * 256 + (x : Int) = (Bt : Int) := by omega
      have hBtm : Bt < 16384 := by omega
      have hst2 : b64F (l.take (k + 1)) = (Bt % 64, (m + 8) % 6, O ++ ltrs Bt 3 (m + 8)) := by rw [hst]; unfold b64S; dsimp only; rw [hx, hBt]
      have H1 := Lib.hid (And.intro hst2 (And.intro hown (And.intro hbel hsz)))
      have hbI : (b : Int) < 64 := by omega
      have hxI : (x : Int) < 256 := by omega
      have hBI : (Bt : Int) < 16384 := by omega
      have hkI : (k : Int) < n := by omega
      have hmI : (m : Int) < 6 := by omega
      clear hc hu hul hst hst2 hown hbel hO hBt hx hb hbs1
      go_wp2
      go_loopw [3, 5] (fun v3 v5 wy => ∃ (f M N' c2 : Nat) (A2 : Option Addr), v3 = .slice A2 N' c2 ∧ v5 = .int .i64 (M : Int) ∧ M ≤ 13 ∧ M + 5 ≤ 6 * f ∧ N' + f ≤ N + 3 ∧ f ≤ 3 ∧ Aside (∃ O', O ++ ltrs Bt 3 (m + 8) = O' ++ ltrs Bt f M ∧ M % 6 = (m + 8) % 6 ∧ wy.ownsRow w.heap.size 5 1 (.slice A2 N' c2) N' (U8 O') ∧ Below w.heap.size w wy)) (fun _ v5 _ => (intOf v5).toNat)
      case atStart => exact ⟨3, m + 8, N, _, _, rfl, by go_num, by omega, by omega, by omega, by omega, (show Aside _ from ⟨O, rfl, rfl, H1.out.2.1, H1.out.2.2.1⟩)⟩
      case round =>
        obtain ⟨f, M, N', c2, A2, rfl, rfl, hM, hMf, hNf, hf3, hrel⟩ := hrel
        obtain ⟨O', hOO, hmod, hown, hbel⟩ := hrel.out
        clear hrel
        by_cases h6 : 6 ≤ M
        · obtain ⟨g, rfl⟩ : ∃ g, f = g + 1 := ⟨f - 1, by omega⟩
          rw [ltrs_step h6] at hOO
          obtain ⟨M6, hM6⟩ : ∃ M6, M - 6 = M6 := ⟨_, rfl⟩
          rw [hM6] at hOO
          have hM6I : (M : Int) - 6 = (M6 : Int) := by omega
          obtain ⟨Sx, hSx⟩ : ∃ Sx, Bt / 2 ^ M6 = Sx := ⟨_, rfl⟩
          have hSI : (Bt : Int) / 2 ^ M6 = (Sx : Int) := by rw [← hSx]; simp
          rw [hSx] at hOO
          obtain ⟨S6, hS6⟩ : ∃ S6, Sx % 64 = S6 := ⟨_, rfl⟩
          rw [hS6] at hOO
          have hS6I : (Sx : Int) % 64 = (S6 : Int) := by omega
          have hS64 : S6 < 64 := by omega
          have hlet := fun W => letter_f S6 W hS64
          have hlv := letU_val hS64
          obtain ⟨q, hq⟩ : ∃ q, letU S6 = q := ⟨_, rfl⟩
          rw [hq] at hOO hlv
          rw [← hlv] at hlet
          obtain ⟨qn, hqn⟩ : ∃ qn, (q.toNat : Int) = qn := ⟨_, rfl⟩
          have hwsz := hbel.size
          have H2 := Lib.hid (And.intro hlet (And.intro hOO (And.intro hown (And.intro hbel (And.intro hwsz (And.intro hmod hM6))))))
          have hMI : (6 : Int) ≤ M := by omega
          have hM6b : (M6 : Int) ≤ 7 := by omega
          have hM6J : M = M6 + 6 := by omega
          have HM := Lib.hid hM6J
          clear hOO hmod hown hbel hM6 hSx hS6 hlet hlv hq hwsz h6 hM6J hqn
          go_wp2_with fail
          refine (H2.out.1 wr).mono ?_
          rintro e w1 ⟨rfl, hw⟩
          obtain rfl := hw.symm
          have H3 := Lib.hid hS6I
          clear hS6I
          try dsimp only
          go_wp2_with (at_builtin; refine wpList_append_bs _ rfl (.tmp 28) (.tmp 34) 24 rfl w.heap.size 5 i0 Tryd.underlying24 hi0 hz0 hz1 hz2 (.slice A2 N' c2) N' _ rfl (H2.out.2.2.1.alloc _) (wr.heap.size + 1) (some ⟨wr.heap.size, 0, none⟩) 1 1 [q] rfl (Bs.lit_ wr 5 _ _ [q] rfl) (by omega) (by have := H2.out.2.2.2.2.1; rw [alloc_size]; omega) ?_; intro v2 w2 hown2 hgrow2; obtain ⟨A3, c3, rfl, hc3⟩ := own_slice (l := O' ++ [q]) (by rw [U8_append]; exact hown2); have HO := Lib.hid (And.intro hown2 hgrow2); clear hown2 hgrow2 hc3)
          go_roundw
          case rel =>
            refine ⟨g, M6, N' + 1, c3, A3, rfl, by first | rfl | go_num, by omega, by have := HM.out; omega, by omega, by omega, (show Aside _ from ⟨O' ++ [q], by rw [H2.out.2.1, List.append_assoc]; rfl, by rw [← H2.out.2.2.2.2.2.1, HM.out]; omega, by rw [U8_append]; exact HO.out.1, ?_⟩)⟩
            exact (H2.out.2.2.2.1.alloc H2.out.2.2.2.2.1 _).grown HO.out.2 (by have := H2.out.2.2.2.2.1; rw [alloc_size]; omega) (own_ge H2.out.2.2.1)
          case measure => simp [intOf]; have := HM.out; omega
        · obtain hend := ltrs_end (B := Bt) (f := f) h6
          rw [hend, List.append_nil] at hOO
          have hMI : ¬ (6 : Int) ≤ M := by omega
          have H2 := Lib.hid (And.intro hOO (And.intro hown (And.intro hbel (And.intro hmod hbel.size))))
          clear hOO hmod hown hbel hend h6
          go_wp2
          go_roundw
          case rel =>
            refine ⟨k + 1, Bt % 64, M, N', c2, A2, rfl, ?_, rfl, by go_num, by omega, by omega, by have := H2.out.2.2.2.1; omega, by omega, (show Aside _ from ⟨O', by rw [H1.out.1, ← H2.out.1, ← H2.out.2.2.2.1]; congr 2; omega, H2.out.2.1, H2.out.2.2.1⟩)⟩
            first | rfl | go_num | (rw [and63b]; rfl) | (simp)
          case measure => simp [intOf]; omega
    · obtain rfl : k = n := by omega
      have hkI : ¬ (k : Int) < k := by omega
      have htk : l.take k = l := List.take_of_length_le (by rw [hlen.out]; omega)
      rw [htk] at hO
      have HE := Lib.hid (And.intro hO (And.intro hown (And.intro hbel hsz)))
      clear hO hown hbel hsz htk
      obtain ⟨E, hE⟩ : ∃ E, b64E (b, m, O) = E := ⟨_, rfl⟩
      have hEQ : b64Q l = b64P E := by unfold b64Q; rw [HE.out.1, hE]
      have HP := Lib.hid hEQ
      clear hEQ
      have hkI2 : (k : Int) ≤ 1000000 := by omega
      rcases (show m = 0 ∨ m = 2 ∨ m = 4 by omega) with rfl | rfl | rfl
      · have hEq : E = O := by rw [← hE]; unfold b64E; simp
        subst hEq
        clear hm6 hm2 hE
        go_wp2
        go_loopw [3] (fun v3 wy => ∃ (N2 c2 : Nat) (A2 : Option Addr), v3 = .slice A2 N2 c2 ∧ N2 + (4 - N2 % 4) % 4 ≤ 2 * k + 4 ∧ Aside (∃ O2, b64P E = b64P O2 ∧ wy.ownsRow w.heap.size 5 1 (.slice A2 N2 c2) N2 (U8 O2) ∧ Below w.heap.size w wy ∧ O2.length = N2)) (fun v3 _ => (4 - lenOf v3 % 4) % 4)
        case atStart => exact ⟨N, _, _, rfl, by omega, (show Aside _ from ⟨E, rfl, HE.out.2.1, HE.out.2.2.1, by have h := HE.out.2.1.1; rw [U8_length] at h; omega⟩)⟩
        case round =>
          obtain ⟨N2, c2, A2, rfl, hN2, hrel⟩ := hrel
          obtain ⟨O2, hEO, hown, hbel, hol⟩ := hrel.out
          clear hrel
          obtain ⟨r, hr⟩ : ∃ r, N2 % 4 = r := ⟨_, rfl⟩
          have hrI : (N2 : Int) % 4 = (r : Int) := by omega
          have hrT : (N2 : Int).tmod 4 = (r : Int) := by rw [Int.tmod_eq_emod_of_nonneg (by omega)]; exact hrI
          have hN2I : (N2 : Int) ≤ 2000005 := by omega
          by_cases hr0 : r = 0
          · subst hr0
            have hPE := b64P_end (l := O2) (by rw [hol]; exact hr)
            obtain ⟨A3, c3, hv, hc3, hbs3⟩ := Bs.of_own (n := N2) (l := O2) hown
            injection hv with h1 h2 h3
            subst h1 h3
            rw [← hol] at hbs3
            have hcv := run_string_bs (P := Tryd.prog) hbs3 24 9 5 c2 Tryd.underlying24 Tryd.underlying5 Tryd.underlying9
            rw [hol] at hcv
            have HZ := Lib.hid (And.intro hEO (And.intro hPE hbel))
            clear hEO hown hbel hol hr hPE hc3 hbs3 h2 hN2
            go_wp2
            go_ret
            exact ⟨(by rw [HP.out, HZ.out.1, HZ.out.2.1]; rfl), HZ.out.2.2⟩
          · have hr1 : ¬ (r : Int) = 0 := by omega
            have hr2 : ((r : Int) != 0) = true := bne_iff_ne.2 hr1
            have hr3 : ((r : Int) == 0) = false := beq_eq_false_iff_ne.2 hr1
            have hsz2 := hbel.size
            have hst := b64P_step (l := O2) (by rw [hol]; omega)
            have HZ := Lib.hid (And.intro hEO (And.intro hst (And.intro hown (And.intro hbel (And.intro hsz2 (And.intro hol hr))))))
            clear hEO hown hbel hol hst hsz2 hr
            go_wp2_with (at_builtin; refine wpList_append_bs _ rfl (.tmp 53) (.tmp 54) 24 rfl w.heap.size 5 i0 Tryd.underlying24 hi0 hz0 hz1 hz2 (.slice A2 N2 c2) N2 _ rfl (HZ.out.2.2.1.alloc _) (wr.heap.size + 1) (some ⟨wr.heap.size, 0, none⟩) 1 1 [61] rfl (Bs.lit_ wr 5 _ _ [61] rfl) (by omega) (by have := HZ.out.2.2.2.2.1; rw [alloc_size]; omega) ?_; intro v3 w3 hown3 hgrow3; obtain ⟨A3, c3, rfl, hc3⟩ := own_slice (l := O2 ++ [61]) (by rw [U8_append]; exact hown3); have HO := Lib.hid (And.intro hown3 hgrow3); clear hown3 hgrow3 hc3)
            go_roundw
            case rel =>
              have h7 := HZ.out.2.2.2.2.2.2
              refine ⟨N2 + 1, c3, A3, rfl, by omega, (show Aside _ from ⟨O2 ++ [61], by rw [HZ.out.1, HZ.out.2.1], by rw [U8_append]; exact HO.out.1, ?_, by rw [List.length_append, HZ.out.2.2.2.2.2.1]; rfl⟩)⟩
              exact (HZ.out.2.2.2.1.alloc HZ.out.2.2.2.2.1 _).grown HO.out.2 (by have := HZ.out.2.2.2.2.1; rw [alloc_size]; omega) (own_ge HZ.out.2.2.1)
            case measure =>
              have h7 := HZ.out.2.2.2.2.2.2
              show (4 - (N2 + 1) % 4) % 4 < (4 - N2 % 4) % 4
              omega
      · have hEq : E = O ++ [letU (b * 16 % 64)] := by rw [← hE]; rfl
        obtain ⟨S6, hS6⟩ : ∃ S6, b * 16 % 64 = S6 := ⟨_, rfl⟩
        have hS64 : S6 < 64 := by omega
        have hS6I : (b : Int) * 16 % 64 = (S6 : Int) := by omega
        have hlet := fun W => letter_f S6 W hS64
        have hlv := letU_val hS64
        rw [hS6] at hEq
        obtain ⟨q, hq⟩ : ∃ q, letU S6 = q := ⟨_, rfl⟩
        rw [hq] at hlv hEq
        rw [← hlv] at hlet
        have H2 := Lib.hid (And.intro hlet (And.intro hS6I hEq))
        clear hS6 hS64 hS6I hlet hlv hq hEq hE hm6 hm2
        go_wp2_with fail
        rw [H2.out.2.1]
        refine (H2.out.1 wr).mono ?_
        rintro e w1 ⟨rfl, hw⟩
        obtain rfl := hw.symm
        try dsimp only
        go_wp2_with (at_builtin; refine wpList_append_bs _ rfl (.tmp 40) (.tmp 47) 24 rfl w.heap.size 5 i0 Tryd.underlying24 hi0 hz0 hz1 hz2 (.slice A' N c') N _ rfl (HE.out.2.1.alloc _) (wr.heap.size + 1) (some ⟨wr.heap.size, 0, none⟩) 1 1 [q] rfl (Bs.lit_ wr 5 _ _ [q] rfl) (by omega) (by have := HE.out.2.2.2; rw [alloc_size]; omega) ?_; intro v2 w2 hown2 hgrow2; obtain ⟨A4, c4, rfl, hc4⟩ := own_slice (l := O ++ [q]) (by rw [U8_append]; exact hown2); have HO4 := Lib.hid (And.intro hown2 hgrow2); clear hown2 hgrow2 hc4)
        go_loopw [3] (fun v3 wy => ∃ (N2 c2 : Nat) (A2 : Option Addr), v3 = .slice A2 N2 c2 ∧ N2 + (4 - N2 % 4) % 4 ≤ 2 * k + 4 ∧ Aside (∃ O2, b64P E = b64P O2 ∧ wy.ownsRow w.heap.size 5 1 (.slice A2 N2 c2) N2 (U8 O2) ∧ Below w.heap.size w wy ∧ O2.length = N2)) (fun v3 _ => (4 - lenOf v3 % 4) % 4)
        case atStart => exact ⟨N + 1, _, _, rfl, by omega, (show Aside _ from ⟨O ++ [q], by rw [H2.out.2.2], by rw [U8_append]; exact HO4.out.1, (HE.out.2.2.1.alloc HE.out.2.2.2 _).grown HO4.out.2 (by have := HE.out.2.2.2; rw [alloc_size]; omega) (own_ge HE.out.2.1), by have h := HE.out.2.1.1; rw [U8_length] at h; rw [List.length_append]; simp only [List.length_cons, List.length_nil]; omega⟩)⟩
        case round =>
          obtain ⟨N2, c2, A2, rfl, hN2, hrel⟩ := hrel
          obtain ⟨O2, hEO, hown, hbel, hol⟩ := hrel.out
          clear hrel
          obtain ⟨r, hr⟩ : ∃ r, N2 % 4 = r := ⟨_, rfl⟩
          have hrI : (N2 : Int) % 4 = (r : Int) := by omega
          have hrT : (N2 : Int).tmod 4 = (r : Int) := by rw [Int.tmod_eq_emod_of_nonneg (by omega)]; exact hrI
          have hN2I : (N2 : Int) ≤ 2000005 := by omega
          by_cases hr0 : r = 0
          · subst hr0
            have hPE := b64P_end (l := O2) (by rw [hol]; exact hr)
            obtain ⟨A3, c3, hv, hc3, hbs3⟩ := Bs.of_own (n := N2) (l := O2) hown
            injection hv with h1 h2 h3
            subst h1 h3
            rw [← hol] at hbs3
            have hcv := run_string_bs (P := Tryd.prog) hbs3 24 9 5 c2 Tryd.underlying24 Tryd.underlying5 Tryd.underlying9
            rw [hol] at hcv
            have HZ := Lib.hid (And.intro hEO (And.intro hPE hbel))
            clear hEO hown hbel hol hr hPE hc3 hbs3 h2 hN2
            go_wp2
            go_ret
            exact ⟨(by rw [HP.out, HZ.out.1, HZ.out.2.1]; rfl), HZ.out.2.2⟩
          · have hr1 : ¬ (r : Int) = 0 := by omega
            have hr2 : ((r : Int) != 0) = true := bne_iff_ne.2 hr1
            have hr3 : ((r : Int) == 0) = false := beq_eq_false_iff_ne.2 hr1
            have hsz2 := hbel.size
            have hst := b64P_step (l := O2) (by rw [hol]; omega)
            have HZ := Lib.hid (And.intro hEO (And.intro hst (And.intro hown (And.intro hbel (And.intro hsz2 (And.intro hol hr))))))
            clear hEO hown hbel hol hst hsz2 hr
            go_wp2_with (at_builtin; refine wpList_append_bs _ rfl (.tmp 53) (.tmp 54) 24 rfl w.heap.size 5 i0 Tryd.underlying24 hi0 hz0 hz1 hz2 (.slice A2 N2 c2) N2 _ rfl (HZ.out.2.2.1.alloc _) (wr.heap.size + 1) (some ⟨wr.heap.size, 0, none⟩) 1 1 [61] rfl (Bs.lit_ wr 5 _ _ [61] rfl) (by omega) (by have := HZ.out.2.2.2.2.1; rw [alloc_size]; omega) ?_; intro v3 w3 hown3 hgrow3; obtain ⟨A3, c3, rfl, hc3⟩ := own_slice (l := O2 ++ [61]) (by rw [U8_append]; exact hown3); have HO := Lib.hid (And.intro hown3 hgrow3); clear hown3 hgrow3 hc3)
            go_roundw
            case rel =>
              have h7 := HZ.out.2.2.2.2.2.2
              refine ⟨N2 + 1, c3, A3, rfl, by omega, (show Aside _ from ⟨O2 ++ [61], by rw [HZ.out.1, HZ.out.2.1], by rw [U8_append]; exact HO.out.1, ?_, by rw [List.length_append, HZ.out.2.2.2.2.2.1]; rfl⟩)⟩
              exact (HZ.out.2.2.2.1.alloc HZ.out.2.2.2.2.1 _).grown HO.out.2 (by have := HZ.out.2.2.2.2.1; rw [alloc_size]; omega) (own_ge HZ.out.2.2.1)
            case measure =>
              have h7 := HZ.out.2.2.2.2.2.2
              show (4 - (N2 + 1) % 4) % 4 < (4 - N2 % 4) % 4
              omega
      · have hEq : E = O ++ [letU (b * 4 % 64)] := by rw [← hE]; rfl
        obtain ⟨S6, hS6⟩ : ∃ S6, b * 4 % 64 = S6 := ⟨_, rfl⟩
        have hS64 : S6 < 64 := by omega
        have hS6I : (b : Int) * 4 % 64 = (S6 : Int) := by omega
        have hlet := fun W => letter_f S6 W hS64
        have hlv := letU_val hS64
        rw [hS6] at hEq
        obtain ⟨q, hq⟩ : ∃ q, letU S6 = q := ⟨_, rfl⟩
        rw [hq] at hlv hEq
        rw [← hlv] at hlet
        have H2 := Lib.hid (And.intro hlet (And.intro hS6I hEq))
        clear hS6 hS64 hS6I hlet hlv hq hEq hE hm6 hm2
        go_wp2_with fail
        rw [H2.out.2.1]
        refine (H2.out.1 wr).mono ?_
        rintro e w1 ⟨rfl, hw⟩
        obtain rfl := hw.symm
        try dsimp only
        go_wp2_with (at_builtin; refine wpList_append_bs _ rfl (.tmp 40) (.tmp 47) 24 rfl w.heap.size 5 i0 Tryd.underlying24 hi0 hz0 hz1 hz2 (.slice A' N c') N _ rfl (HE.out.2.1.alloc _) (wr.heap.size + 1) (some ⟨wr.heap.size, 0, none⟩) 1 1 [q] rfl (Bs.lit_ wr 5 _ _ [q] rfl) (by omega) (by have := HE.out.2.2.2; rw [alloc_size]; omega) ?_; intro v2 w2 hown2 hgrow2; obtain ⟨A4, c4, rfl, hc4⟩ := own_slice (l := O ++ [q]) (by rw [U8_append]; exact hown2); have HO4 := Lib.hid (And.intro hown2 hgrow2); clear hown2 hgrow2 hc4)
        go_loopw [3] (fun v3 wy => ∃ (N2 c2 : Nat) (A2 : Option Addr), v3 = .slice A2 N2 c2 ∧ N2 + (4 - N2 % 4) % 4 ≤ 2 * k + 4 ∧ Aside (∃ O2, b64P E = b64P O2 ∧ wy.ownsRow w.heap.size 5 1 (.slice A2 N2 c2) N2 (U8 O2) ∧ Below w.heap.size w wy ∧ O2.length = N2)) (fun v3 _ => (4 - lenOf v3 % 4) % 4)
        case atStart => exact ⟨N + 1, _, _, rfl, by omega, (show Aside _ from ⟨O ++ [q], by rw [H2.out.2.2], by rw [U8_append]; exact HO4.out.1, (HE.out.2.2.1.alloc HE.out.2.2.2 _).grown HO4.out.2 (by have := HE.out.2.2.2; rw [alloc_size]; omega) (own_ge HE.out.2.1), by have h := HE.out.2.1.1; rw [U8_length] at h; rw [List.length_append]; simp only [List.length_cons, List.length_nil]; omega⟩)⟩
        case round =>
          obtain ⟨N2, c2, A2, rfl, hN2, hrel⟩ := hrel
          obtain ⟨O2, hEO, hown, hbel, hol⟩ := hrel.out
          clear hrel
          obtain ⟨r, hr⟩ : ∃ r, N2 % 4 = r := ⟨_, rfl⟩
          have hrI : (N2 : Int) % 4 = (r : Int) := by omega
          have hrT : (N2 : Int).tmod 4 = (r : Int) := by rw [Int.tmod_eq_emod_of_nonneg (by omega)]; exact hrI
          have hN2I : (N2 : Int) ≤ 2000005 := by omega
          by_cases hr0 : r = 0
          · subst hr0
            have hPE := b64P_end (l := O2) (by rw [hol]; exact hr)
            obtain ⟨A3, c3, hv, hc3, hbs3⟩ := Bs.of_own (n := N2) (l := O2) hown
            injection hv with h1 h2 h3
            subst h1 h3
            rw [← hol] at hbs3
            have hcv := run_string_bs (P := Tryd.prog) hbs3 24 9 5 c2 Tryd.underlying24 Tryd.underlying5 Tryd.underlying9
            rw [hol] at hcv
            have HZ := Lib.hid (And.intro hEO (And.intro hPE hbel))
            clear hEO hown hbel hol hr hPE hc3 hbs3 h2 hN2
            go_wp2
            go_ret
            exact ⟨(by rw [HP.out, HZ.out.1, HZ.out.2.1]; rfl), HZ.out.2.2⟩
          · have hr1 : ¬ (r : Int) = 0 := by omega
            have hr2 : ((r : Int) != 0) = true := bne_iff_ne.2 hr1
            have hr3 : ((r : Int) == 0) = false := beq_eq_false_iff_ne.2 hr1
            have hsz2 := hbel.size
            have hst := b64P_step (l := O2) (by rw [hol]; omega)
            have HZ := Lib.hid (And.intro hEO (And.intro hst (And.intro hown (And.intro hbel (And.intro hsz2 (And.intro hol hr))))))
            clear hEO hown hbel hol hst hsz2 hr
            go_wp2_with (at_builtin; refine wpList_append_bs _ rfl (.tmp 53) (.tmp 54) 24 rfl w.heap.size 5 i0 Tryd.underlying24 hi0 hz0 hz1 hz2 (.slice A2 N2 c2) N2 _ rfl (HZ.out.2.2.1.alloc _) (wr.heap.size + 1) (some ⟨wr.heap.size, 0, none⟩) 1 1 [61] rfl (Bs.lit_ wr 5 _ _ [61] rfl) (by omega) (by have := HZ.out.2.2.2.2.1; rw [alloc_size]; omega) ?_; intro v3 w3 hown3 hgrow3; obtain ⟨A3, c3, rfl, hc3⟩ := own_slice (l := O2 ++ [61]) (by rw [U8_append]; exact hown3); have HO := Lib.hid (And.intro hown3 hgrow3); clear hown3 hgrow3 hc3)
            go_roundw
            case rel =>
              have h7 := HZ.out.2.2.2.2.2.2
              refine ⟨N2 + 1, c3, A3, rfl, by omega, (show Aside _ from ⟨O2 ++ [61], by rw [HZ.out.1, HZ.out.2.1], by rw [U8_append]; exact HO.out.1, ?_, by rw [List.length_append, HZ.out.2.2.2.2.2.1]; rfl⟩)⟩
              exact (HZ.out.2.2.2.1.alloc HZ.out.2.2.2.2.1 _).grown HO.out.2 (by have := HZ.out.2.2.2.2.1; rw [alloc_size]; omega) (own_ge HZ.out.2.2.1)
            case measure =>
              have h7 := HZ.out.2.2.2.2.2.2
              show (4 - (N2 + 1) % 4) % 4 < (4 - N2 % 4) % 4
              omega
end Go.Proofs.YtbclgalocipmfaaDoor
