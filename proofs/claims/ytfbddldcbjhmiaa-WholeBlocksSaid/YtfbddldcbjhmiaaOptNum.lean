/-
  Numbers as few bytes, and back.
-/
import Derived.Test.YtfbddldcbjhmiaaOptDel
import Derived.StillTailTactics
namespace Go.Proofs.Ytfbddldcbjhmiaa
open Go.RowKit
set_option maxRecDepth 100000
set_option linter.unusedVariables false
/-- The bytes of a number, the least first. -/
def le (m : Nat) : List UInt8 := if h : m = 0 then [] else UInt8.ofNat (m % 256) :: le (m / 256)
termination_by m
decreasing_by omega
theorem le_zero : le 0 = [] := by rw [le]; rfl
theorem le_pos {m : Nat} (h : 0 < m) : le m = UInt8.ofNat (m % 256) :: le (m / 256) := by rw [le, dif_neg (by omega)]
theorem le_len : ∀ (k m : Nat), m < 256 ^ k → (le m).length ≤ k
  | 0, m, h => by
    have : m = 0 := by simp at h; exact h
    subst this
    rw [le_zero]; exact Nat.le_refl _
  | k + 1, m, h => by
    rcases Nat.eq_zero_or_pos m with h0 | h0
    · subst h0; rw [le_zero]; simp
    · rw [le_pos h0, List.length_cons]
      have := le_len k (m / 256) (Nat.div_lt_of_lt_mul (by rw [Nat.pow_succ] at h; omega))
      omega
theorem le_len_ge : ∀ (k m : Nat), 256 ^ k ≤ m → k + 1 ≤ (le m).length
  | 0, m, h => by
    rw [le_pos (by simp at h; omega)]; simp
  | k + 1, m, h => by
    have hp : 0 < 256 ^ (k + 1) := Nat.pow_pos (by decide)
    rw [le_pos (by omega), List.length_cons]
    have := le_len_ge k (m / 256) ((Nat.le_div_iff_mul_le (by decide)).2 (by rw [Nat.pow_succ] at h; exact h))
    omega
theorem nat_byte {m : Nat} (h : m < 256) : (UInt8.ofNat m).toNat = m := by
  rw [UInt8.toNat_ofNat']; omega
/-- The number of bytes. -/
def numOf (l : List UInt8) : Nat := l.foldl (fun a x => a * 256 + x.toNat) 0
theorem numOf_snoc (l : List UInt8) (x : UInt8) : numOf (l ++ [x]) = numOf l * 256 + x.toNat := by unfold numOf; rw [List.foldl_append]; rfl
theorem numOf_lt (l : List UInt8) : numOf l < 256 ^ l.length := by
  suffices h : ∀ r : List UInt8, numOf r.reverse < 256 ^ r.length by have := h l.reverse; rwa [List.reverse_reverse, List.length_reverse] at this
  intro r
  induction r with
  | nil => simp [numOf]
  | cons x r ih =>
    rw [List.reverse_cons, numOf_snoc, List.length_cons, Nat.pow_succ]
    have := x.toNat_lt
    omega
theorem numOf_le (m : Nat) : numOf (le m).reverse = m := by
  induction m using Nat.strongRecOn with
  | ind m ih =>
    rcases Nat.eq_zero_or_pos m with h | h
    · subst h; rw [le_zero]; rfl
    · rw [le_pos h, List.reverse_cons, numOf_snoc, ih (m / 256) (by omega), nat_byte (by omega)]
      omega
theorem rev_get {l X : List UInt8} {n : Nat} (hl : l.length = n) (hX : X.length = n) (h : ∀ k, k < n → X[k]? = l[n - 1 - k]?) : X = l.reverse := by
  refine List.ext_getElem? fun k => ?_
  by_cases hk : k < n
  · rw [h k hk, List.getElem?_reverse (by omega), hl]
  · rw [List.getElem?_eq_none (by omega), List.getElem?_eq_none (by rw [List.length_reverse]; omega)]
set_option maxHeartbeats 4000000 in
theorem rev_f (v : Value) (n : Nat) (l : List UInt8) (w : World) (base : Nat) (hrow : w.ownsRow base 5 1 v n (U8 l)) (hn : n ≤ 1048576) :
    Calls Try.prog 66 #[v] w fun e w' => e = .returned (.tuple #[]) ∧ w'.ownsRow base 5 1 v n (U8 l.reverse) ∧ w.grownBy w' v.ownBlock := by
  have hln : l.length = n := by have := hrow.1; rw [U8_length] at this; omega
  have hnI : (n : Int) ≤ 1048576 := by omega
  by_cases h0 : n = 0
  · subst h0
    obtain rfl : l = [] := List.eq_nil_of_length_eq_zero hln
    obtain ⟨A, c, rfl, _⟩ := Bs.of_own hrow
    have HR := Lib.hid hrow
    clear hrow
    go_enter Try.func66, Try.ntmps66
    go_wp2
    go_loopw [2, 3] (fun i j wr => i = .int .i64 0 ∧ j = .int .i64 (-1) ∧ wr = w) (fun _ _ _ => 0)
    case atStart => exact ⟨rfl, rfl, rfl⟩
    case round =>
      obtain ⟨rfl, rfl, rfl⟩ := hrel
      go_wp2
      refine bodyPost_end (results_none rfl _ _ _) rfl ?_
      exact ⟨rfl, by have := HR.out; exact this, World.grownBy.refl _ _⟩
  · rcases hrow.2 with ⟨_, h'⟩ | ⟨g, cap, cur, rfl, _, _, hnc, _⟩
    · exact absurd h' h0
    · have HR : Aside _ := And.intro hrow hln
      clear hrow hln
      have hnc' : (n : Int) ≤ cap := by omega
      go_enter Try.func66, Try.ntmps66
      go_wp2
      go_loopw [2, 3] (fun i j wr => ∃ (k : Nat) (X : List UInt8), k ≤ n ∧ i = .int .i64 k ∧ j = .int .i64 ((n : Int) - 1 - k) ∧ wr.ownsRow base 5 1 (.slice (some ⟨g, 0, none⟩) n cap) n (U8 X) ∧ w.grownBy wr (some g) ∧ Aside (∀ q, q < n → X[q]? = if q < k ∨ n - 1 - k < q then l[n - 1 - q]? else l[q]?)) (fun i _ _ => n - (intOf i).toNat)
      case atStart => exact ⟨0, l, by omega, rfl, by go_num, HR.out.1, World.grownBy.refl _ _, (show Aside _ from fun q hq => by rw [if_neg (by omega)])⟩
      case round =>
        obtain ⟨k, X, hk, rfl, rfl, hrow, hgr, hX⟩ := hrel
        have hXl : X.length = n := by have := hrow.1; rw [U8_length] at this; omega
        by_cases hlt : (k : Int) < (n : Int) - 1 - k
        · obtain ⟨m, hm⟩ : ∃ m : Nat, m = n - 1 - k := ⟨_, rfl⟩
          have hmI : (n : Int) - 1 - k = (m : Int) := by omega
          rw [hmI] at hlt ⊢
          have hkm : k < m := by omega
          have hmn : m < n := by omega
          obtain ⟨u, hu⟩ := byte_get (l := X) (k := k) (by omega)
          obtain ⟨x, hx⟩ := byte_get (l := X) (k := m) (by omega)
          have ck : wr.drew.cell? ⟨g, k, none⟩ = some (.int .u8 (u.toNat : Int)) := by
            show wr.cell? ⟨g, k, none⟩ = _
            rw [hrow.cellAt k (by omega), U8_get, hu]; rfl
          have cm : wr.drew.cell? ⟨g, m, none⟩ = some (.int .u8 (x.toNat : Int)) := by
            show wr.cell? ⟨g, m, none⟩ = _
            rw [hrow.cellAt m (by omega), U8_get, hx]; rfl
          have fk : wr.drew.frozen? ⟨g, k, none⟩ = false := hrow.frozenAt k
          have fm : wr.drew.frozen? ⟨g, m, none⟩ = false := hrow.frozenAt m
          have ck' : wr.cell? ⟨g, k, none⟩ = some (.int .u8 (u.toNat : Int)) := ck
          have cm' : wr.cell? ⟨g, m, none⟩ = some (.int .u8 (x.toNat : Int)) := cm
          have fk' : wr.frozen? ⟨g, k, none⟩ = false := fk
          have fm' : wr.frozen? ⟨g, m, none⟩ = false := fm
          have HX : Aside _ := And.intro hrow (And.intro hgr (And.intro hX (And.intro hXl (And.intro hu (And.intro hx (And.intro hm hmI))))))
          have hkI : (k : Int) < n := by omega
          have hmI' : (m : Int) < n := by omega
          have hk0 : (0 : Int) ≤ k := by omega
          have hm0 : (0 : Int) ≤ m := by omega
          clear hrow hgr hX hXl hu hx hm hmI
          go_wp2_with fail
          have hne : ¬ k = m := by omega
          have hne2 : ¬ m = k := by omega
          go_region
          all_goals
            go_wp2
            go_roundw
            case rel =>
              obtain ⟨hrow, hgr, hX, hXl, hu, hx, hm, hmI⟩ := HX.out
              obtain ⟨a1, b1⟩ := hrow.stored k (.int .u8 (x.toNat : Int))
              obtain ⟨a2, b2⟩ := a1.stored m (.int .u8 (u.toNat : Int))
              rw [← U8_set, ← U8_set] at a2
              refine ⟨k + 1, (X.set k x).set m u, by omega, by go_num, congrArg _ (by omega), a2, ⟨b2.os.trans (b1.os.trans hgr.os), b2.tape.trans (b1.tape.trans hgr.tape), b2.output.trans (b1.output.trans hgr.output), Nat.le_trans hgr.size (Nat.le_trans b1.size b2.size), fun q hq hne => (b2.block q (Nat.lt_of_lt_of_le hq (Nat.le_trans hgr.size b1.size)) hne).trans ((b1.block q (Nat.lt_of_lt_of_le hq hgr.size) hne).trans (hgr.block q hq hne))⟩, (show Aside _ from fun q hq => ?_)⟩
              have h1 := hX.out q hq
              have hk1 := hX.out k (by omega)
              have hm1 := hX.out m (by omega)
              rw [if_neg (by omega), hu] at hk1
              rw [if_neg (by omega), hx] at hm1
              by_cases e1 : q = m
              · subst e1
                rw [List.getElem?_set_self (by rw [List.length_set]; omega), if_pos (by omega), show n - 1 - q = k by omega]
                exact hk1
              · rw [List.getElem?_set_ne (by omega)]
                by_cases e2 : q = k
                · subst e2
                  rw [List.getElem?_set_self (by omega), if_pos (by omega), ← hm]
                  exact hm1
                · rw [List.getElem?_set_ne (by omega), h1]
                  by_cases e3 : q < k ∨ n - 1 - k < q
                  · rw [if_pos e3, if_pos (by omega)]
                  · rw [if_neg e3, if_neg (by omega)]
            case measure => simp [intOf]; omega
        · have hfin : X = l.reverse := rev_get HR.out.2 hXl fun q hq => by
            rw [hX.out q hq]
            by_cases e : q < k ∨ n - 1 - k < q
            · rw [if_pos e]
            · rw [if_neg e, show n - 1 - q = q by omega]
          rw [hfin] at hrow
          have HX := Lib.hid (And.intro hrow hgr)
          clear hrow hgr hX hfin
          go_wp2
          refine bodyPost_end (results_none rfl _ _ _) rfl ?_
          exact ⟨rfl, HX.out.1, HX.out.2⟩
theorem lit_byte (m : Nat) : (#[Value.int .u8 ((m : Int) % 256)] : Array Value).toList = U8 [UInt8.ofNat (m % 256)] := by
  simp only [U8, List.map_cons, List.map_nil]
  rw [nat_byte (by omega)]
  rfl
set_option maxHeartbeats 4000000 in
theorem uint_f (n : Int) (w : World) (hn : n ≤ 9223372036854775807) :
    Calls Try.prog 34 #[.int .i64 n] w (RetOwn 5 (le n.toNat).reverse w) := by
  obtain ⟨i0, hi0, hz0, hz1, hz2⟩ := info_parts info_u8
  have hrev := fun (v : Value) (l : List UInt8) (W : World) (h : W.ownsRow w.heap.size 5 1 v l.length (U8 l)) (hl : l.length ≤ 8) => rev_f v l.length l W _ h (by omega)
  have HV : Aside _ := hrev
  clear hrev
  by_cases h0 : 0 < n
  · obtain ⟨N, rfl⟩ := Int.eq_ofNat_of_zero_le (Int.le_of_lt h0)
    have hlen : (le N).length ≤ 8 := le_len 8 N (by omega)
    rw [Int.toNat_natCast]
    have HL : Aside _ := hlen
    clear hlen
    go_enter Try.func34, Try.ntmps34
    go_wp2
    go_loopw [0, 3] (fun m v wr => ∃ (M : Nat) (l : List UInt8), M ≤ N ∧ m = .int .i64 M ∧ wr.ownsRow w.heap.size 5 1 v l.length (U8 l) ∧ Below w.heap.size w wr ∧ Aside (l ++ le M = le N)) (fun m _ _ => (intOf m).toNat)
    case atStart => exact ⟨N, [], Nat.le_refl _, rfl, World.ownsRow_nil _ _ _ _, Below.refl _ _, rfl⟩
    case round =>
      obtain ⟨M, l, hM, rfl, hrow, hbr, hl⟩ := hrel
      have hll : l.length ≤ 8 := by
        have h1 := HL.out
        have h2 := congrArg List.length hl.out
        rw [List.length_append] at h2
        omega
      obtain ⟨q, hq⟩ : ∃ q, l.length = q := ⟨_, rfl⟩
      have HQ := Lib.hid hq
      by_cases hlt : 0 < M
      · have hMI : (0 : Int) < M := by omega
        have hst := le_pos hlt
        have hMn : (M : Int) ≤ 9223372036854775807 := by omega
        have HX : Aside _ := And.intro hrow (And.intro hbr (And.intro hl hst))
        have hsz := hbr.size
        rw [hq] at hrow hll
        have HW := Lib.hid hrow
        clear hrow hbr hl hst hq
        go_wp2_with (at_builtin; refine wpList_append_bs _ rfl (.tmp 8) (.tmp 11) 22 rfl w.heap.size 5 i0 Try.underlying22 hi0 hz0 hz1 hz2 _ q _ rfl (HW.out.alloc _) (wr.heap.size + 1) (some ⟨wr.heap.size, 0, none⟩) 1 1 [UInt8.ofNat (M % 256)] rfl (Bs.lit_ wr 5 _ _ _ (lit_byte M)) (by omega) (by rw [alloc_size]; omega) ?_; intro v' w1 hown1 hgrow; have HY : Aside _ := And.intro hown1 ((HX.out.2.1.alloc hsz _).grown hgrow (by rw [alloc_size]; omega) (own_ge HW.out)); clear hown1 hgrow)
        go_roundw
        case rel =>
          refine ⟨M / 256, l ++ [UInt8.ofNat (M % 256)], by omega, ?_, ?_, HY.out.2, ?_⟩
          · first | rfl | (exact congrArg _ (by omega))
          · rw [List.length_append, HQ.out, U8_append]; exact HY.out.1
          · show Aside _
            rw [List.append_assoc, List.singleton_append, ← HX.out.2.2.2]; exact HX.out.2.2.1.out
        case measure => simp [intOf]; omega
      · obtain rfl : M = 0 := by omega
        have hfin : l = le N := by have := hl.out; rwa [le_zero, List.append_nil] at this
        have hcall := HV.out _ l wr hrow hll
        have HX := Lib.hid (And.intro hrow (And.intro hbr hfin))
        clear hrow hbr hl hfin hq
        go_wp2_with (go_at_call 66; refine hcall.mono ?_; rintro e w2 ⟨rfl, ho2, g2⟩; have HY := Lib.hid (And.intro ho2 g2); clear ho2 g2)
        go_ret
        refine ⟨_, rfl, ?_, HX.out.2.1.grown HY.out.2 HX.out.2.1.size (own_ge HX.out.1)⟩
        rw [← HX.out.2.2, List.length_reverse]
        exact HY.out.1
  · have hz : n.toNat = 0 := by omega
    rw [hz, le_zero]
    clear hz
    have hcall := HV.out (.slice none 0 0) [] w (World.ownsRow_nil _ _ _ _) (by simp)
    go_enter Try.func34, Try.ntmps34
    go_wp2
    go_loopw [0, 3] (fun m v wr => m = .int .i64 n ∧ v = .slice none 0 0 ∧ wr = w) (fun _ _ _ => 0)
    case atStart => exact ⟨rfl, rfl, rfl⟩
    case round =>
      obtain ⟨rfl, rfl, rfl⟩ := hrel
      go_wp2_with (go_at_call 66; refine hcall.mono ?_; rintro e w2 ⟨rfl, ho2, g2⟩)
      go_ret
      exact ⟨_, rfl, World.ownsRow_nil _ _ _ _, (Below.refl wr.heap.size wr).grown g2 (Nat.le_refl _) (fun g e => by cases e)⟩
theorem or_sh (a x : Int) (a0 : 0 ≤ a) (ha : a < 281474976710656) (x0 : 0 ≤ x) (x1 : x < 256) : bits .or .i64 (a * 256) x = a * 256 + x := by
  obtain ⟨y, rfl⟩ := Int.eq_ofNat_of_zero_le a0
  obtain ⟨z, rfl⟩ := Int.eq_ofNat_of_zero_le x0
  show IntKind.i64.wrap ((BitVec.ofInt 64 ((y : Int) * 256) ||| BitVec.ofInt 64 (z : Int)).toNat : Int) = _
  rw [show (y : Int) * 256 = ((2 ^ 8 * y : Nat) : Int) by omega, BitVec.ofInt_natCast, BitVec.ofInt_natCast, BitVec.toNat_or, BitVec.toNat_ofNat, BitVec.toNat_ofNat, Nat.mod_eq_of_lt (by omega), Nat.mod_eq_of_lt (by omega), ← Nat.two_pow_add_eq_or_of_lt (by omega)]
  rw [IntWalk.i64_in _ (by omega)]; omega
def numB (l : List UInt8) : Int × Bool := if 7 < l.length then (0, false) else ((numOf l : Int), true)
set_option maxHeartbeats 2000000 in
theorem number_f (A : Option Addr) (n c : Nat) (l : List UInt8) (w : World) (B : Nat) (hbs : Bs w B A n l) :
    Calls Try.prog 46 #[.slice A n c] w fun e w' => e = .returned (.tuple #[.int .i64 (numB l).1, .bool (numB l).2]) ∧ w' = w := by
  have HB := Lib.hid hbs
  have hln := hbs.len
  clear hbs
  by_cases h7 : (7 : Int) < n
  · have hr : numB l = (0, false) := by unfold numB; rw [if_pos (by omega)]
    rw [hr]
    clear hr hln
    go_enter Try.func46, Try.ntmps46
    go_wp2
    go_ret2
    exact ⟨rfl, rfl⟩
  · have hr : numB l = ((numOf l : Int), true) := by unfold numB; rw [if_neg (by omega)]
    rw [hr]
    have HLn := Lib.hid hln
    clear hr hln
    go_enter Try.func46, Try.ntmps46
    go_wp2
    go_loop [4, 6, 12] (fun m _ i => ∃ k : Nat, k ≤ n ∧ i = .int .i64 k ∧ m = .int .i64 (numOf (l.take k) : Int)) (fun _ _ i => n - (intOf i).toNat)
    case atStart => exact ⟨0, by omega, rfl, rfl⟩
    case round =>
      obtain ⟨k, hk, rfl, rfl⟩ := hrel
      by_cases hlt : k < n
      · obtain ⟨b, off, rfl, hb, hc⟩ := HB.out.place (by omega)
        obtain ⟨u, hu⟩ := byte_get (l := l) (k := k) (by have := HLn.out; omega)
        have ck := hc k u hu
        have hs : numOf (l.take (k + 1)) = numOf (l.take k) * 256 + u.toNat := by rw [List.take_add_one, hu]; exact numOf_snoc _ _
        have hlt2 := numOf_lt (l.take k)
        have hm : numOf (l.take k) < 281474976710656 := by
          have h1 : (l.take k).length ≤ 6 := by rw [List.length_take]; omega
          have h2 := Nat.pow_le_pow_right (n := 256) (by decide) h1
          have h3 : 256 ^ 6 = 281474976710656 := by decide
          omega
        have HS := Lib.hid hs
        have hor := or_sh (numOf (l.take k) : Int) (u.toNat : Int) (by omega) (by omega) (by omega) (byte_lt u)
        generalize numOf (l.take k) = a at *
        have hub := byte_lt u
        obtain ⟨x, hx⟩ : ∃ x : Int, (u.toNat : Int) = x := ⟨_, rfl⟩
        rw [hx] at ck hor hub
        have HXe := Lib.hid hx
        have hx0 : 0 ≤ x := by omega
        have hai : (a : Int) < 281474976710656 := by omega
        clear hc hu hs hlt2 hm hx
        go_wp2
        go_round
        case rel =>
          refine ⟨k + 1, by omega, by go_num, ?_⟩
          rw [HS.out]
          exact congrArg _ (by have := HXe.out; omega)
        case measure => simp [intOf]; omega
      · obtain rfl : k = n := by omega
        rw [List.take_of_length_le (by have := HLn.out; omega)]
        go_wp2
        go_ret2
        exact ⟨rfl, rfl⟩
end Go.Proofs.Ytfbddldcbjhmiaa
