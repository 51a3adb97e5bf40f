/-
  The law PathConds.
-/
import Derived.Test.YthnbcilpallhjaaDoorPaAlive
namespace Go.Proofs.YthnbcilpallhjaaDoor
open Go.RowKit
set_option maxRecDepth 100000
set_option linter.unusedVariables false
theorem and65535_ (x : Int) : bits .and .i64 x 65535 = x % 65536 := by
  show IntKind.i64.wrap ((BitVec.ofInt 64 x &&& BitVec.ofInt 64 65535).toNat : Int) = x % 65536
  rw [BitVec.toNat_and, show (BitVec.ofInt 64 65535).toNat = 2 ^ 16 - 1 from rfl, Nat.and_two_pow_sub_one_eq_mod, BitVec.toNat_ofInt, IntWalk.i64_in _ (by omega)]
  omega
theorem and31_ (x : Int) : bits .and .i64 x 2147483647 = x % 2147483648 := by
  show IntKind.i64.wrap ((BitVec.ofInt 64 x &&& BitVec.ofInt 64 2147483647).toNat : Int) = x % 2147483648
  rw [BitVec.toNat_and, show (BitVec.ofInt 64 2147483647).toNat = 2 ^ 31 - 1 from rfl, Nat.and_two_pow_sub_one_eq_mod, BitVec.toNat_ofInt, IntWalk.i64_in _ (by omega)]
  omega
theorem num_f (n : Int) (w : World) (hT : TabD w) (h0 : -9223372036854775808 ≤ n) (h1 : n ≤ 9223372036854775807) :
    Calls Tryd.prog 33 #[.int .i64 n] w fun e w' => e = .returned (.string ⟨(Lib.itoa n).toArray⟩) ∧ Below w.heap.size w w' := by
  have h := fun W (hW : Below w.heap.size w W) => rwrite13_f 1 n ⟨#[]⟩ none 0 0 0 0 [] W 0 (Bs.empty _ _ _) (Nat.zero_le _) (by decide) (by decide) (hT.below hW hT.size) h0 h1 (by decide) (by decide) (by decide) (by decide)
  have he : txtE 1 n (ByteArray.size ⟨#[]⟩) (okN (runesQ (ByteArray.data ⟨#[]⟩).toList)) 0 0 0 = 0 := by
    unfold txtE rightB
    rw [if_neg (by decide), show ByteArray.size ⟨#[]⟩ = 0 from rfl, decide_eq_true (Or.inl ⟨Or.inl rfl, rfl, rfl, rfl, rfl⟩)]
    rfl
  rw [he] at h
  have HH := Lib.hid h
  clear h he hT
  go_enter Tryd.func33, Tryd.ntmps33
  go_wp2_with fail
  refine (HH.out _ (Below.refl _ _)).mono ?_
  rintro e w1 ⟨t, rfl, ht, b1⟩
  rw [if_pos rfl] at ht
  replace ht : t.data.toList = Lib.itoa n := ht
  obtain rfl : t = ⟨(Lib.itoa n).toArray⟩ := by
    cases t with
    | mk a => congr 1; rw [← ht, Array.toArray_toList]
  have H1 := Lib.hid b1
  clear ht b1
  try dsimp only
  go_wp2
  go_ret
  exact ⟨rfl, H1.out⟩
theorem numM_dec {m n : Nat} (h : n ≤ m) : numM m (Lib.decDigits n) = some n := by
  obtain ⟨c, r, hcr, h0, h1, h2⟩ := dec_first n
  have hd := digs_dec n
  unfold numM
  rw [hd, if_neg (by
    rintro (h3 | ⟨h3, h4⟩)
    · rw [hcr] at h3; simp at h3
    · rw [hcr] at h4
      injection h4 with h4
      have hz := h2 (by rw [h4]; rfl)
      rw [hz, dec_zero] at h3
      exact absurd h3 (by decide))]
  dsimp only
  rw [if_pos h]
theorem itoa_pos {n : Nat} : Lib.itoa (n : Int) = Lib.decDigits n := by
  unfold Lib.itoa
  rw [if_neg (by omega), Int.toNat_natCast]
theorem itoa_neg {n : Nat} (h : 0 < n) : Lib.itoa (-(n : Int)) = 45 :: Lib.decDigits n := by
  unfold Lib.itoa
  rw [if_pos (by omega), show (-(n : Int)).natAbs = n by omega]
theorem numM_itoa {m : Nat} {n : Int} (h0 : 0 ≤ n) (h : n ≤ m) : numM m (Lib.itoa n) = some n.toNat := by
  obtain ⟨k, rfl⟩ := Int.eq_ofNat_of_zero_le h0
  rw [itoa_pos, Int.toNat_natCast, numM_dec (by omega)]
theorem signed_itoa {n : Int} (h0 : -2147483647 ≤ n) (h1 : n ≤ 2147483647) : signedQ (Lib.itoa n) = some n := by
  by_cases hn : n < 0
  · obtain ⟨k, rfl⟩ : ∃ k : Nat, n = -(k : Int) := ⟨n.natAbs, by omega⟩
    rw [itoa_neg (by omega)]
    unfold signedQ
    rw [if_pos (show (45 :: Lib.decDigits k).head? = some 45 from rfl), List.drop_succ_cons, List.drop_zero, numM_dec (by omega)]
    dsimp only
    rw [if_neg (by omega)]
  · obtain ⟨k, rfl⟩ := Int.eq_ofNat_of_zero_le (Int.not_lt.1 hn)
    rw [itoa_pos]
    obtain ⟨c, r, hcr, h2, h3, _⟩ := dec_first k
    unfold signedQ
    rw [if_neg (by rw [hcr]; intro e; injection e with e; rw [e] at h2; exact absurd h2 (by decide)), numM_dec (by omega)]
theorem idx_eqs (nm vl : List UInt8) (h : ∀ u ∈ nm, u ≠ 61) : Lib.indexByte (nm ++ 61 :: vl) 61 = nm.length := by
  rcases idx_spec' 61 (nm ++ 61 :: vl) with ⟨_, hno⟩ | ⟨k, hk, hc, hlow⟩
  · exact absurd rfl (hno nm.length 61 (by rw [List.getElem?_append_right (Nat.le_refl _), Nat.sub_self]; rfl))
  · rw [hk]
    rcases Nat.lt_trichotomy k nm.length with h1 | h1 | h1
    · rw [List.getElem?_append_left h1] at hc
      exact absurd rfl (h 61 (List.mem_of_getElem? hc))
    · rw [h1]
    · exact absurd rfl (hlow nm.length 61 h1 (by rw [List.getElem?_append_right (Nat.le_refl _), Nat.sub_self]; rfl))
theorem pair_query (nm vl : ByteArray) (h : ∀ u ∈ nm.data.toList, u ≠ 61) : pairQ (queryQ ⟨nm, vl, false⟩) = ⟨nm, vl, false⟩ := by
  have hq : queryQ ⟨nm, vl, false⟩ = nm.data.toList ++ 61 :: vl.data.toList := rfl
  have hi := idx_eqs nm.data.toList vl.data.toList h
  have hA : cutA (nm.data.toList ++ 61 :: vl.data.toList) 61 = nm.data.toList := by
    unfold cutA
    rw [hi, if_neg (by omega), Int.toNat_natCast, List.take_left' rfl]
  have hB : cutB (nm.data.toList ++ 61 :: vl.data.toList) 61 = vl.data.toList := by
    unfold cutB
    rw [hi, if_neg (by omega), Int.toNat_natCast, show nm.data.toList ++ 61 :: vl.data.toList = (nm.data.toList ++ [61]) ++ vl.data.toList by rw [List.append_assoc]; rfl]
    exact List.drop_left' (by rw [List.length_append]; rfl)
  unfold pairQ
  rw [hq, hA, hB, hi]
  have hd : (!decide (¬ ((nm.data.toList.length : Int) = -1))) = false := by rw [decide_eq_true (by omega)]; rfl
  rw [hd]
def mkP (nm : ByteArray) (n : Int) : Pr := ⟨nm, ⟨(Lib.itoa n).toArray⟩, false⟩
def nMin : ByteArray := ⟨#[112, 109, 105, 110]⟩
def nMax : ByteArray := ⟨#[112, 109, 97, 120]⟩
def nGt : ByteArray := ⟨#[103, 116]⟩
def nSt : ByteArray := ⟨#[115, 116]⟩
def prs4 (a g s : Int) : List Pr := [mkP nMin a, mkP nGt 7, mkP nGt (-g), mkP nSt s]
theorem allO_op (ps : List Pr) : allO 15 (opPr ps) = ps.map queryQ := by
  unfold allO opPr
  rw [List.filter_eq_self.2 (fun x hx => by obtain ⟨p, _, rfl⟩ := List.mem_map.1 hx; rfl), List.map_map]
  rfl
theorem back_one (nm : ByteArray) (n : Int) (h : ∀ u ∈ nm.data.toList, u ≠ 61) : pairQ (queryQ (mkP nm n)) = mkP nm n := pair_query nm _ h
theorem tl_min (c : Cq) (n : Int) (h0 : 0 ≤ n) (h1 : n ≤ 65535) : tellQ c nMin.data.toList (mkP nMin n).vl.data.toList = some { c with a := n, ha := true } := by
  show tellQ c [112, 109, 105, 110] (Lib.itoa n) = _
  unfold tellQ
  rw [if_pos rfl, numM_itoa h0 (by omega)]
  dsimp only
  rw [Int.toNat_of_nonneg h0]
theorem tl_max (c : Cq) (n : Int) (h0 : 0 ≤ n) (h1 : n ≤ 65535) : tellQ c nMax.data.toList (mkP nMax n).vl.data.toList = some { c with b := n, hb := true } := by
  show tellQ c [112, 109, 97, 120] (Lib.itoa n) = _
  unfold tellQ
  rw [if_neg (by decide), if_pos rfl, numM_itoa h0 (by omega)]
  dsimp only
  rw [Int.toNat_of_nonneg h0]
theorem tl_gt (c : Cq) (n : Int) (h0 : -2147483647 ≤ n) (h1 : n ≤ 2147483647) : tellQ c nGt.data.toList (mkP nGt n).vl.data.toList = some { c with g := n, hg := true } := by
  show tellQ c [103, 116] (Lib.itoa n) = _
  unfold tellQ
  rw [if_neg (by decide), if_neg (by decide), if_pos rfl, signed_itoa h0 h1]
theorem tl_st (c : Cq) (n : Int) (h0 : -2147483647 ≤ n) (h1 : n ≤ 2147483647) : tellQ c nSt.data.toList (mkP nSt n).vl.data.toList = some { c with s := n, hs := true } := by
  show tellQ c [115, 116] (Lib.itoa n) = _
  unfold tellQ
  rw [if_neg (by decide), if_neg (by decide), if_neg (by decide), if_neg (by decide), if_pos rfl, signed_itoa h0 h1]
theorem cond_cons {c c' : Cq} {p : Pr} {r : List Pr} (h : tellQ c p.nm.data.toList p.vl.data.toList = some c') : condF c (p :: r) = condF c' r := by
  show (match tellQ c p.nm.data.toList p.vl.data.toList with | none => none | some c' => condF c' r) = _
  rw [h]
theorem conds4 (a g s : Int) (ha : 0 ≤ a ∧ a ≤ 65535) (hg : 0 ≤ g ∧ g ≤ 2147483647) (hs : 0 ≤ s ∧ s ≤ 2147483647) : condQ ((allO 15 (opPr (prs4 a g s))).map pairQ) = if s = 0 then (cq0, false, 1) else (⟨a, 0, true, false, -g, 0, s, true, false, true⟩, true, 0) := by
  have e : (allO 15 (opPr (prs4 a g s))).map pairQ = prs4 a g s := by
    rw [allO_op]
    unfold prs4
    simp only [List.map_cons, List.map_nil]
    rw [back_one nMin a (by decide), back_one nGt 7 (by decide), back_one nGt (-g) (by decide), back_one nSt s (by decide)]
  rw [e]
  have hc : condF cq0 (prs4 a g s) = some ⟨a, 0, true, false, -g, 0, s, true, false, true⟩ := by
    unfold prs4
    rw [cond_cons (tl_min _ a ha.1 ha.2), cond_cons (tl_gt _ 7 (by omega) (by omega)), cond_cons (tl_gt _ (-g) (by omega) (by omega)), cond_cons (tl_st _ s (by omega) (by omega))]
    rfl
  unfold condQ
  rw [hc]
  dsimp only
  by_cases h : s = 0
  · rw [if_pos h, if_pos (.inr ⟨rfl, by omega⟩)]
  · rw [if_neg h, if_neg (by rintro (⟨⟨_, h1⟩, _⟩ | ⟨_, h1⟩); cases h1; omega)]
    have hz : cqz ⟨a, 0, true, false, -g, 0, s, true, false, true⟩ = false := decide_eq_false (fun h => Bool.noConfusion h.2.2.1)
    rw [hz]; rfl
theorem conds5 (a b g s : Int) (ha : 0 ≤ a ∧ a ≤ 65535) (hb : 0 ≤ b ∧ b ≤ 65535) (hg : 0 ≤ g ∧ g ≤ 2147483647) (hs : 0 ≤ s ∧ s ≤ 2147483647) : condQ ((allO 15 (opPr (prs4 a g s ++ [mkP nMax b]))).map pairQ) = if b < a ∨ s = 0 then (cq0, false, 1) else (⟨a, b, true, true, -g, 0, s, true, false, true⟩, true, 0) := by
  have e : (allO 15 (opPr (prs4 a g s ++ [mkP nMax b]))).map pairQ = prs4 a g s ++ [mkP nMax b] := by
    rw [allO_op]
    unfold prs4
    simp only [List.map_cons, List.map_nil, List.cons_append, List.nil_append]
    rw [back_one nMin a (by decide), back_one nGt 7 (by decide), back_one nGt (-g) (by decide), back_one nSt s (by decide), back_one nMax b (by decide)]
  rw [e]
  have hc : condF cq0 (prs4 a g s ++ [mkP nMax b]) = some ⟨a, b, true, true, -g, 0, s, true, false, true⟩ := by
    unfold prs4
    simp only [List.cons_append, List.nil_append]
    rw [cond_cons (tl_min _ a ha.1 ha.2), cond_cons (tl_gt _ 7 (by omega) (by omega)), cond_cons (tl_gt _ (-g) (by omega) (by omega)), cond_cons (tl_st _ s (by omega) (by omega)), cond_cons (tl_max _ b hb.1 hb.2)]
    rfl
  unfold condQ
  rw [hc]
  dsimp only
  by_cases h : b < a ∨ s = 0
  · rw [if_pos h, if_pos (by rcases h with h | h; exact .inl ⟨⟨rfl, rfl⟩, h⟩; exact .inr ⟨rfl, by omega⟩)]
  · rw [if_neg h, if_neg (by rintro (⟨_, h1⟩ | ⟨_, h1⟩) <;> omega)]
    have hz : cqz ⟨a, b, true, true, -g, 0, s, true, false, true⟩ = false := decide_eq_false (fun h => Bool.noConfusion h.2.2.1)
    rw [hz]; rfl
theorem mk_small (nm : ByteArray) (n : Int) (hnm : nm.size ≤ 10) (h : -2147483647 ≤ n ∧ n ≤ 2147483647) : (mkP nm n).nm.size ≤ 10 ∧ (mkP nm n).vl.size ≤ 20 := by
  refine ⟨hnm, ?_⟩
  show (Lib.itoa n).toArray.size ≤ 20
  rw [List.size_toArray]
  exact itoa_len n (by omega) (by omega)
theorem small4' {a g s : Int} (ha : 0 ≤ a ∧ a ≤ 65535) (hg : 0 ≤ g ∧ g ≤ 2147483647) (hs : 0 ≤ s ∧ s ≤ 2147483647) : ∀ p ∈ prs4 a g s, p.nm.size ≤ 10 ∧ p.vl.size ≤ 20 := by
  intro p hp
  unfold prs4 at hp
  simp only [List.mem_cons, List.not_mem_nil, or_false] at hp
  rcases hp with rfl | rfl | rfl | rfl
  · exact mk_small _ _ (by decide) (by omega)
  · exact mk_small _ _ (by decide) (by omega)
  · exact mk_small _ _ (by decide) (by omega)
  · exact mk_small _ _ (by decide) (by omega)
theorem small4 {a g s : Int} (ha : 0 ≤ a ∧ a ≤ 65535) (hg : 0 ≤ g ∧ g ≤ 2147483647) (hs : 0 ≤ s ∧ s ≤ 2147483647) : ∀ p ∈ prs4 a g s, p.nm.size ≤ 1000000 ∧ p.vl.size ≤ 1000000 := fun p hp => by
  have := small4' ha hg hs p hp; omega
theorem small5' {a b g s : Int} (ha : 0 ≤ a ∧ a ≤ 65535) (hb : 0 ≤ b ∧ b ≤ 65535) (hg : 0 ≤ g ∧ g ≤ 2147483647) (hs : 0 ≤ s ∧ s ≤ 2147483647) : ∀ p ∈ prs4 a g s ++ [mkP nMax b], p.nm.size ≤ 10 ∧ p.vl.size ≤ 20 := by
  intro p hp
  rcases List.mem_append.1 hp with hp | hp
  · exact small4' ha hg hs p hp
  · rw [List.mem_singleton] at hp
    subst hp
    exact mk_small _ _ (by decide) (by omega)
theorem small5 {a b g s : Int} (ha : 0 ≤ a ∧ a ≤ 65535) (hb : 0 ≤ b ∧ b ≤ 65535) (hg : 0 ≤ g ∧ g ≤ 2147483647) (hs : 0 ≤ s ∧ s ≤ 2147483647) : ∀ p ∈ prs4 a g s ++ [mkP nMax b], p.nm.size ≤ 1000000 ∧ p.vl.size ≤ 1000000 := fun p hp => by
  have := small5' ha hb hg hs p hp; omega
theorem op_small {ps : List Pr} (h : ∀ p ∈ ps, p.nm.size ≤ 10 ∧ p.vl.size ≤ 20) : ∀ x ∈ opPr ps, x.2.length ≤ 1000000 := by
  intro x hx
  obtain ⟨p, hp, rfl⟩ := List.mem_map.1 hx
  have hs := h p hp
  show (queryQ p).length ≤ _
  unfold queryQ
  split
  · rw [size_list]; omega
  · rw [List.length_append, List.length_cons, size_list, size_list]; omega
set_option maxHeartbeats 8000000 in
theorem pconds_law (pmin pmax gt st : Int) (both : Bool) (w : World) (hT : Tab7 w) :
    Calls Tryd.prog 7 #[.int .i64 pmin, .int .i64 pmax, .int .i64 gt, .int .i64 st, .bool both] w fun e w' => e = .returned (.bool true) ∧ Below w.heap.size w w' := by
  have HT := Lib.hid fun W (h : Below w.heap.size w W) => hT.below h
  clear hT
  obtain ⟨a, ha⟩ : ∃ a, pmin % 65536 = a := ⟨_, rfl⟩
  obtain ⟨b, hb⟩ : ∃ b, pmax % 65536 = b := ⟨_, rfl⟩
  obtain ⟨g, hg⟩ : ∃ g, gt % 2147483648 = g := ⟨_, rfl⟩
  obtain ⟨s, hs⟩ : ∃ s, st % 2147483648 = s := ⟨_, rfl⟩
  have ha0 : 0 ≤ a ∧ a ≤ 65535 := by omega
  have hb0 : 0 ≤ b ∧ b ≤ 65535 := by omega
  have hg0 : 0 ≤ g ∧ g ≤ 2147483647 := by omega
  have hs0 : 0 ≤ s ∧ s ≤ 2147483647 := by omega
  have m1 : bits .and .i64 pmin 65535 = a := by rw [and65535_]; exact ha
  have m2 : bits .and .i64 pmax 65535 = b := by rw [and65535_]; exact hb
  have m3 : bits .and .i64 gt 2147483647 = g := by rw [and31_]; exact hg
  have m4 : bits .and .i64 st 2147483647 = s := by rw [and31_]; exact hs
  have HB := Lib.hid (And.intro ha0 (And.intro hb0 (And.intro hg0 hs0)))
  have hg1 : 0 ≤ g := hg0.1
  have hg2 : g ≤ 2147483647 := hg0.2
  clear ha hb hg hs ha0 hb0 hg0 hs0
  go_enter Tryd.func7, Tryd.ntmps7
  go_wp2_with fail
  refine (alive16_f w (HT.out w (Below.refl _ _))).mono ?_
  rintro e w1 ⟨rfl, b1⟩
  have H1 := Lib.hid b1
  clear b1
  try dsimp only
  go_wp2_with fail
  clear m1 m2 m3 m4
  refine (num_f a w1 (HT.out w1 H1.out).d (by have := HB.out.1; omega) (by have := HB.out.1; omega)).mono ?_
  rintro e w2 ⟨rfl, b2⟩
  have H2 := Lib.hid (H1.out.trans (b2.mono H1.out.size))
  clear b2
  obtain ⟨ta, hta⟩ : ∃ t : ByteArray, ⟨(Lib.itoa a).toArray⟩ = t := ⟨_, rfl⟩
  rw [hta]
  have HTA := Lib.hid hta
  clear hta
  try dsimp only
  go_wp2_with fail
  refine (num_f 7 w2 (HT.out w2 H2.out).d (by omega) (by omega)).mono ?_
  rintro e w3 ⟨rfl, b3⟩
  have H3 := Lib.hid (H2.out.trans (b3.mono H2.out.size))
  clear b3
  obtain ⟨t7, ht7⟩ : ∃ t : ByteArray, ⟨(Lib.itoa 7).toArray⟩ = t := ⟨_, rfl⟩
  rw [ht7]
  have HT7 := Lib.hid ht7
  clear ht7
  try dsimp only
  go_wp2_with fail
  refine (num_f (-g) w3 (HT.out w3 H3.out).d (by omega) (by omega)).mono ?_
  rintro e w4 ⟨rfl, b4⟩
  have H4 := Lib.hid (H3.out.trans (b4.mono H3.out.size))
  clear b4
  obtain ⟨tg, htg⟩ : ∃ t : ByteArray, ⟨(Lib.itoa (-g)).toArray⟩ = t := ⟨_, rfl⟩
  rw [htg]
  have HTG := Lib.hid htg
  clear htg
  try dsimp only
  go_wp2_with fail
  refine (num_f s w4 (HT.out w4 H4.out).d (by have := HB.out.2.2.2; omega) (by have := HB.out.2.2.2; omega)).mono ?_
  rintro e w5 ⟨rfl, b5⟩
  have H5 := Lib.hid (H4.out.trans (b5.mono H4.out.size))
  clear b5
  obtain ⟨ts, hts⟩ : ∃ t : ByteArray, ⟨(Lib.itoa s).toArray⟩ = t := ⟨_, rfl⟩
  rw [hts]
  have HTS := Lib.hid hts
  clear hts
  try dsimp only
  have hps : prs4 a g s = [⟨nMin, ta, false⟩, ⟨nGt, t7, false⟩, ⟨nGt, tg, false⟩, ⟨nSt, ts, false⟩] := by
    unfold prs4 mkP
    rw [HTA.out, HT7.out, HTG.out, HTS.out]
  have HPS := Lib.hid hps
  clear hps
  have hsm : ∀ p ∈ prs4 a g s, p.nm.size ≤ 1000000 ∧ p.vl.size ≤ 1000000 := small4 HB.out.1 HB.out.2.2.1 HB.out.2.2.2
  have hop : ∀ x ∈ opPr (prs4 a g s), x.2.length ≤ 1000000 := op_small (fun p hp => small4' HB.out.1 HB.out.2.2.1 HB.out.2.2.2 p hp)
  rw [HPS.out] at hsm hop
  have HSM := Lib.hid hsm
  have HOP := Lib.hid hop
  clear hsm hop
  cases both with
  | false =>
    go_wp2_with fail
    refine (al16_queries [⟨nMin, ta, false⟩, ⟨nGt, t7, false⟩, ⟨nGt, tg, false⟩, ⟨nSt, ts, false⟩] w5 #[.string ⟨#[112, 109, 105, 110]⟩, .string ta, .bool false, .string ⟨#[103, 116]⟩, .string t7, .bool false, .string ⟨#[103, 116]⟩, .string tg, .bool false, .string ⟨#[115, 116]⟩, .string ts, .bool false] rfl HSM.out (show (4 : Nat) ≤ 1048576 by decide)).mono ?_
    rintro e wA ⟨AA, nA, dA, usA, rfl, hncA, hnA, hosA, bA⟩
    obtain rfl : nA = 4 := hnA.out
    have kA := (alloc_below w5 (.cells #[.string ⟨#[112, 109, 105, 110]⟩, .string ta, .bool false, .string ⟨#[103, 116]⟩, .string t7, .bool false, .string ⟨#[103, 116]⟩, .string tg, .bool false, .string ⟨#[115, 116]⟩, .string ts, .bool false] 60)).trans (bA.mono (alloc_below w5 _).size)
    have HQ := Lib.hid (And.intro (H5.out.trans (kA.mono H5.out.size)) hosA)
    clear bA kA hosA hnA hncA
    try dsimp only
    go_wp2_with fail
    have cC := cond_f AA 4 dA usA _ wA _ HQ.out.2 (Nat.le_refl _) (by decide) (HOP.out) (HT.out wA HQ.out.1).e
    rw [← HPS.out, conds4 a g s HB.out.1 HB.out.2.2.1 HB.out.2.2.2] at cC
    by_cases hs0 : s = 0
    · rw [if_pos hs0] at cC
      subst hs0
      refine cC.mono ?_
      unfold condE Cq.vals cq0
      rintro e wB ⟨rfl, bB⟩
      have hbel := HQ.out.1.trans (bB.mono HQ.out.1.size)
      obtain ⟨z0, z1, z2, z3, z4, z5, z6, z7, z8, z9⟩ := ten (range_newV wB #[.int .i64 0, .int .i64 0, .bool false, .bool false, .int .i64 0, .int .i64 0, .int .i64 0, .bool false, .bool false, .bool false] 47 rfl)
      have HZ := Lib.hid (hbel.trans ((alloc_below wB (.cells #[.int .i64 0, .int .i64 0, .bool false, .bool false, .int .i64 0, .int .i64 0, .int .i64 0, .bool false, .bool false, .bool false] 47)).mono hbel.size))
      clear bB hbel cC
      try dsimp only
      go_wp2
      go_ret
      exact ⟨rfl, HZ.out⟩
    · rw [if_neg hs0] at cC
      refine cC.mono ?_
      unfold condE Cq.vals
      rintro e wB ⟨rfl, bB⟩
      have hbel := HQ.out.1.trans (bB.mono HQ.out.1.size)
      obtain ⟨z0, z1, z2, z3, z4, z5, z6, z7, z8, z9⟩ := ten (range_newV wB #[.int .i64 a, .int .i64 0, .bool true, .bool false, .int .i64 (-g), .int .i64 0, .int .i64 s, .bool true, .bool false, .bool true] 47 rfl)
      have HZ := Lib.hid (hbel.trans ((alloc_below wB (.cells #[.int .i64 a, .int .i64 0, .bool true, .bool false, .int .i64 (-g), .int .i64 0, .int .i64 s, .bool true, .bool false, .bool true] 47)).mono hbel.size))
      clear bB hbel cC
      try dsimp only
      have e1 : (a == a) = true := beq_self_eq_true _
      have e2 : (b == b) = true := beq_self_eq_true _
      have e3 : (-g == -g) = true := beq_self_eq_true _
      have e4 : (s == s) = true := beq_self_eq_true _
      have e5 : (s == 0) = false := beq_eq_false_iff_ne.2 hs0
      go_wp2
      go_ret
      exact ⟨rfl, HZ.out⟩
  | true =>
    obtain ⟨i0, hi0, hz0, hz1, hz2⟩ := info_parts info_pr
    go_wp2_with fail
    refine (num_f b (w5.alloc (.cells #[.string ⟨#[112, 109, 105, 110]⟩, .string ta, .bool false, .string ⟨#[103, 116]⟩, .string t7, .bool false, .string ⟨#[103, 116]⟩, .string tg, .bool false, .string ⟨#[115, 116]⟩, .string ts, .bool false] 60)) (HT.out _ (H5.out.trans ((alloc_below w5 _).mono H5.out.size))).d (by have := HB.out.2.1; omega) (by have := HB.out.2.1; omega)).mono ?_
    rintro e w6 ⟨rfl, b6⟩
    have k6 := (alloc_below w5 (.cells #[.string ⟨#[112, 109, 105, 110]⟩, .string ta, .bool false, .string ⟨#[103, 116]⟩, .string t7, .bool false, .string ⟨#[103, 116]⟩, .string tg, .bool false, .string ⟨#[115, 116]⟩, .string ts, .bool false] 60)).trans (b6.mono (alloc_below w5 _).size)
    have hlit : (w5.alloc (.cells #[.string ⟨#[112, 109, 105, 110]⟩, .string ta, .bool false, .string ⟨#[103, 116]⟩, .string t7, .bool false, .string ⟨#[103, 116]⟩, .string tg, .bool false, .string ⟨#[115, 116]⟩, .string ts, .bool false] 60)).ownsRow w5.heap.size 60 3 (.slice (some ⟨w5.heap.size, 0, none⟩) 4 4) 4 (prK.all [⟨nMin, ta, false⟩, ⟨nGt, t7, false⟩, ⟨nGt, tg, false⟩, ⟨nSt, ts, false⟩]) := World.ownsRow_lit w5 #[.string ⟨#[112, 109, 105, 110]⟩, .string ta, .bool false, .string ⟨#[103, 116]⟩, .string t7, .bool false, .string ⟨#[103, 116]⟩, .string tg, .bool false, .string ⟨#[115, 116]⟩, .string ts, .bool false] 4 (Nat.le_refl _) (by unfold maxLen; omega) rfl
    have HR := Lib.hid (And.intro (rk_below hlit b6) (And.intro k6 k6.size))
    have H6 := Lib.hid (H5.out.trans (k6.mono H5.out.size))
    clear b6 k6 hlit
    obtain ⟨tb, htb⟩ : ∃ t : ByteArray, ⟨(Lib.itoa b).toArray⟩ = t := ⟨_, rfl⟩
    rw [htb]
    have HTB := Lib.hid htb
    clear htb
    try dsimp only
    have hps5 : [⟨nMin, ta, false⟩, ⟨nGt, t7, false⟩, ⟨nGt, tg, false⟩, ⟨nSt, ts, false⟩] ++ [(⟨nMax, tb, false⟩ : Pr)] = prs4 a g s ++ [mkP nMax b] := by rw [HPS.out, ← HTB.out]; rfl
    have HPS5 := Lib.hid hps5
    have hsm5 : ∀ p ∈ prs4 a g s ++ [mkP nMax b], p.nm.size ≤ 1000000 ∧ p.vl.size ≤ 1000000 := small5 HB.out.1 HB.out.2.1 HB.out.2.2.1 HB.out.2.2.2
    have hop5 : ∀ x ∈ opPr (prs4 a g s ++ [mkP nMax b]), x.2.length ≤ 1000000 := op_small (fun p hp => small5' HB.out.1 HB.out.2.1 HB.out.2.2.1 HB.out.2.2.2 p hp)
    rw [← hps5] at hsm5 hop5
    have HSM5 := Lib.hid hsm5
    have HOP5 := Lib.hid hop5
    clear hps5 hsm5 hop5
    go_wp2_with (at_builtin; go_loud (refine prK.append_one w6 rfl (.tmp 39) (.tmp 43) 56 rfl w5.heap.size 60 i0 _ 40 Tryd.underlying56 hi0 hz0 hz1 hz2 rfl (.slice (some ⟨w5.heap.size, 0, none⟩) 4 4) 4 _ rfl HR.out.1 ⟨nMax, tb, false⟩ _ rfl _ rfl (by omega) (by unfold maxLen; omega) HR.out.2.2 ?_); intro A7 c7 w7 hown7 hgr7; have H7 := Lib.hid (And.intro hown7 hgr7); clear hown7 hgr7)
    have hb7 : Below w5.heap.size w5 w7 := rk_in' (HR.out.2.1.trans (Below.mono (alloc_below w6 _) HR.out.2.2)) (HR.out.1.alloc _) H7.out.2 (by have := HR.out.2.2; rw [alloc_size]; omega)
    obtain ⟨A7', c7', e7, _, _, hat7, _⟩ := RowK.At.of_own H7.out.1
    injection e7 with q1 _ q3
    subst q1 q3
    have cQ := pqueries_f A7 5 c7 _ w7 _ hat7 (Nat.le_refl _) (by decide) HSM5.out
    have HQ0 := Lib.hid (And.intro cQ (H5.out.trans (hb7.mono H5.out.size)))
    clear cQ hb7 hat7
    refine HQ0.out.1.mono ?_
    rintro e wA ⟨AA, nA, dA, usA, rfl, hncA, hnA, hosA, bA⟩
    obtain rfl : nA = 5 := hnA.out
    have HQ := Lib.hid (And.intro (HQ0.out.2.trans (bA.mono HQ0.out.2.size)) hosA)
    clear bA hosA hnA hncA
    try dsimp only
    go_wp2_with fail
    have cC := cond_f AA 5 dA usA _ wA _ HQ.out.2 (Nat.le_refl _) (by decide) (HOP5.out) (HT.out wA HQ.out.1).e
    rw [HPS5.out, conds5 a b g s HB.out.1 HB.out.2.1 HB.out.2.2.1 HB.out.2.2.2] at cC
    by_cases hba : b < a
    · rw [if_pos (.inl hba)] at cC
      refine cC.mono ?_
      unfold condE Cq.vals cq0
      rintro e wB ⟨rfl, bB⟩
      have hbel := HQ.out.1.trans (bB.mono HQ.out.1.size)
      obtain ⟨z0, z1, z2, z3, z4, z5, z6, z7, z8, z9⟩ := ten (range_newV wB #[.int .i64 0, .int .i64 0, .bool false, .bool false, .int .i64 0, .int .i64 0, .int .i64 0, .bool false, .bool false, .bool false] 47 rfl)
      have HZ := Lib.hid (hbel.trans ((alloc_below wB (.cells #[.int .i64 0, .int .i64 0, .bool false, .bool false, .int .i64 0, .int .i64 0, .int .i64 0, .bool false, .bool false, .bool false] 47)).mono hbel.size))
      clear bB hbel cC
      try dsimp only
      go_wp2
      go_ret
      exact ⟨rfl, HZ.out⟩
    by_cases hs0 : s = 0
    · rw [if_pos (.inr hs0)] at cC
      subst hs0
      refine cC.mono ?_
      unfold condE Cq.vals cq0
      rintro e wB ⟨rfl, bB⟩
      have hbel := HQ.out.1.trans (bB.mono HQ.out.1.size)
      obtain ⟨z0, z1, z2, z3, z4, z5, z6, z7, z8, z9⟩ := ten (range_newV wB #[.int .i64 0, .int .i64 0, .bool false, .bool false, .int .i64 0, .int .i64 0, .int .i64 0, .bool false, .bool false, .bool false] 47 rfl)
      have HZ := Lib.hid (hbel.trans ((alloc_below wB (.cells #[.int .i64 0, .int .i64 0, .bool false, .bool false, .int .i64 0, .int .i64 0, .int .i64 0, .bool false, .bool false, .bool false] 47)).mono hbel.size))
      clear bB hbel cC
      try dsimp only
      go_wp2
      go_ret
      exact ⟨rfl, HZ.out⟩
    · rw [if_neg (fun h => h.elim hba hs0)] at cC
      refine cC.mono ?_
      unfold condE Cq.vals
      rintro e wB ⟨rfl, bB⟩
      have hbel := HQ.out.1.trans (bB.mono HQ.out.1.size)
      obtain ⟨z0, z1, z2, z3, z4, z5, z6, z7, z8, z9⟩ := ten (range_newV wB #[.int .i64 a, .int .i64 b, .bool true, .bool true, .int .i64 (-g), .int .i64 0, .int .i64 s, .bool true, .bool false, .bool true] 47 rfl)
      have HZ := Lib.hid (hbel.trans ((alloc_below wB (.cells #[.int .i64 a, .int .i64 b, .bool true, .bool true, .int .i64 (-g), .int .i64 0, .int .i64 s, .bool true, .bool false, .bool true] 47)).mono hbel.size))
      clear bB hbel cC
      try dsimp only
      have e1 : (a == a) = true := beq_self_eq_true _
      have e2 : (b == b) = true := beq_self_eq_true _
      have e3 : (-g == -g) = true := beq_self_eq_true _
      have e4 : (s == s) = true := beq_self_eq_true _
      have e5 : (s == 0) = false := beq_eq_false_iff_ne.2 hs0
      go_wp2
      go_ret
      exact ⟨rfl, HZ.out⟩

end Go.Proofs.YthnbcilpallhjaaDoor
