/-
  What is written is read back, and the law PathBack.
-/
import Derived.Test.YthnbcilpallhjaaDoorPaCondsLaw
import Derived.Test.YthnbcilpallhjaaDoorPaPairs
import Derived.Test.YthnbcilpallhjaaDoorArgs
import Derived.Test.YthnbcilpallhjaaDoorOps
namespace Go.Proofs.YthnbcilpallhjaaDoor
open Go.ChangeShapes Go.WideShapes Go.ChangeAt Go.RowKit Go.Deep
set_option maxRecDepth 100000
set_option linter.unusedVariables false
theorem digs_cut : ∀ (l : List UInt8) (a k : Nat), Lib.indexByte l 47 = (k : Int) → digs l a = none
  | [], a, k, h => by
    replace h : (-1 : Int) = k := h
    omega
  | c :: r, a, k, h => by
    unfold digs
    by_cases hd : c.toNat < 48 ∨ 57 < c.toNat
    · rw [if_pos hd]
    · rw [if_neg hd]
      unfold Lib.indexByte at h
      rw [if_neg (by
        intro e
        have : c = 47 := by simpa using e
        subst this
        exact hd (.inl (by decide)))] at h
      by_cases h1 : (Lib.indexByte r 47 == -1) = true
      · rw [if_pos h1] at h; omega
      · rw [if_neg h1] at h
        exact digs_cut r _ (k - 1) (by have := Lib.indexByte_ge r 47; have h2 : Lib.indexByte r 47 ≠ -1 := by simpa using h1
                                       omega)
theorem itoa_cut {z : Int} (h : 0 ≤ z) : Lib.indexByte (Lib.itoa z) 47 = -1 := by
  obtain ⟨k, rfl⟩ := Int.eq_ofNat_of_zero_le h
  rw [itoa_pos]
  rcases idx_spec' 47 (Lib.decDigits k) with ⟨h1, _⟩ | ⟨j, h1, _⟩
  · exact h1
  · have h2 := digs_cut _ 0 j h1
    rw [digs_dec] at h2
    cases h2
theorem itoa_at {z : Int} (h : 0 ≤ z) (r : List UInt8) : Lib.indexByte (Lib.itoa z ++ 47 :: r) 47 = ((Lib.itoa z).length : Int) := by
  refine idx_at _ _ _ (fun x hx e => ?_)
  subst e
  rcases idx_spec' 47 (Lib.itoa z) with ⟨_, h2⟩ | ⟨j, h1, _⟩
  · obtain ⟨i, hi⟩ := List.mem_iff_getElem?.1 hx
    exact h2 i 47 hi rfl
  · rw [itoa_cut h] at h1
    omega
theorem itoa_some {z : Int} (h0 : 0 ≤ z) : Lib.itoa z ≠ [] := by
  obtain ⟨k, rfl⟩ := Int.eq_ofNat_of_zero_le h0
  rw [itoa_pos]
  obtain ⟨c, r, hcr, _⟩ := dec_first k
  rw [hcr]
  exact List.cons_ne_nil _ _
theorem split_app {z : Int} (h : 0 ≤ z) (m : Nat) (r : List UInt8) : splitB (m + 1) (Lib.itoa z ++ 47 :: r) = Lib.itoa z :: splitB m r := by
  rw [splitB_some (itoa_at h r), List.take_left' rfl]
  congr 2
  rw [show Lib.itoa z ++ 47 :: r = (Lib.itoa z ++ [47]) ++ r by rw [List.append_assoc]; rfl]
  exact List.drop_left' (by rw [List.length_append]; rfl)
theorem nums_itoa : ∀ {zs : List Int}, (∀ z ∈ zs, 0 ≤ z ∧ z ≤ 65535) → numsQ (zs.map Lib.itoa) = some zs
  | [], _ => rfl
  | z :: r, h => by
    have hz := h z (List.mem_cons_self ..)
    have ih := nums_itoa (fun x hx => h x (List.mem_cons_of_mem _ hx) : ∀ x ∈ r, 0 ≤ x ∧ x ≤ 65535)
    rw [List.map_cons, numsQ, numM_itoa (m := 65535) hz.1 hz.2]
    dsimp only
    rw [ih]
    dsimp only
    rw [Int.toNat_of_nonneg hz.1]
theorem path_text {zs : List Int} (h : rightP zs = true) : readP (textP zs) = some zs := by
  obtain ⟨h3, hin⟩ := right_in h
  have hn := nums_itoa hin
  unfold textP
  rw [if_pos h]
  match zs, h3, hin, hn with
  | [], _, _, _ => decide +kernel
  | [a], _, hin, hn =>
    have ha := (hin a (by simp)).1
    have e : splitB 2 (Lib.itoa a) = [Lib.itoa a] := splitB_none (itoa_cut ha)
    rw [if_neg (by simp), show textQ [a] = 47 :: Lib.itoa a by unfold textQ; simp]
    unfold readP
    rw [List.head?_cons, if_pos rfl, List.drop_succ_cons, List.drop_zero, if_neg (itoa_some ha), e]
    exact hn
  | [a, b], _, hin, hn =>
    have ha := (hin a (by simp)).1
    have hb := (hin b (by simp)).1
    have e : splitB 2 (Lib.itoa a ++ 47 :: Lib.itoa b) = [Lib.itoa a, Lib.itoa b] := by
      rw [split_app ha, splitB_none (itoa_cut hb)]
    rw [if_neg (by simp), show textQ [a, b] = 47 :: (Lib.itoa a ++ 47 :: Lib.itoa b) by unfold textQ; simp]
    unfold readP
    rw [List.head?_cons, if_pos rfl, List.drop_succ_cons, List.drop_zero, if_neg (fun e => itoa_some ha (List.append_eq_nil_iff.1 e).1), e]
    exact hn
  | [a, b, c], _, hin, hn =>
    have ha := (hin a (by simp)).1
    have hb := (hin b (by simp)).1
    have e : splitB 2 (Lib.itoa a ++ 47 :: (Lib.itoa b ++ 47 :: Lib.itoa c)) = [Lib.itoa a, Lib.itoa b, Lib.itoa c] := by
      rw [split_app ha, split_app hb]; rfl
    rw [if_neg (by simp), show textQ [a, b, c] = 47 :: (Lib.itoa a ++ 47 :: (Lib.itoa b ++ 47 :: Lib.itoa c)) by unfold textQ; simp]
    unfold readP
    rw [List.head?_cons, if_pos rfl, List.drop_succ_cons, List.drop_zero, if_neg (fun e => itoa_some ha (List.append_eq_nil_iff.1 e).1), e]
    exact hn
theorem textQ_len : ∀ ys : List Int, (∀ z ∈ ys, 0 ≤ z ∧ z ≤ 65535) → (textQ ys).length ≤ 21 * ys.length
  | [], _ => Nat.le_refl _
  | z :: r, h => by
    have ih := textQ_len r (fun x hx => h x (List.mem_cons_of_mem _ hx))
    have hz := h z (List.mem_cons_self ..)
    have h1 := itoa_len z (by omega) (by omega)
    have e : textQ (z :: r) = (47 :: Lib.itoa z) ++ textQ r := by unfold textQ; rw [List.flatMap_cons]
    rw [e, List.length_append, List.length_cons, List.length_cons]
    omega
theorem text_small {zs : List Int} (h : ∀ z ∈ zs, 0 ≤ z ∧ z ≤ 65535) (h3 : zs.length ≤ 3) : (textP zs).length ≤ 1000000 := by
  have := textQ_len zs h
  unfold textP
  split
  · split
    · decide
    · omega
  · decide
theorem text_one {z : Int} (h : 0 ≤ z ∧ z ≤ 65535) : textP [z] = 47 :: Lib.itoa z := by
  unfold textP
  rw [if_pos (by
    unfold rightP badN
    simp only [List.length_singleton, List.any_cons, List.any_nil, Bool.or_false]
    rw [decide_eq_true (show 1 ≤ 3 by decide), decide_eq_false (by omega)]; rfl), if_neg (by simp)]
  unfold textQ; simp
/-- A pair as it is told. -/
def normQ (p : Pr) : Pr := if p.bare = true then ⟨p.nm, ⟨#[]⟩, true⟩ else p
theorem pair_back {p : Pr} (h : ∀ u ∈ p.nm.data.toList, u ≠ 61) : pairQ (queryQ p) = normQ p := by
  obtain ⟨nm, vl, b⟩ := p
  cases b with
  | false => exact pair_query nm vl h
  | true =>
    have hq : queryQ ⟨nm, vl, true⟩ = nm.data.toList := rfl
    have hi : Lib.indexByte nm.data.toList 61 = -1 := by
      rcases idx_spec' 61 nm.data.toList with ⟨h1, _⟩ | ⟨j, _, h2, _⟩
      · exact h1
      · exact absurd rfl (h 61 (List.mem_of_getElem? h2))
    unfold pairQ cutA cutB normQ
    rw [hq, hi]
    rfl
theorem all_back {ps : List Pr} (h : ∀ p ∈ ps, ∀ u ∈ p.nm.data.toList, u ≠ 61) : (allO 15 (opPr ps)).map pairQ = ps.map normQ := by
  rw [allO_op, List.map_map]
  exact List.map_congr_left (fun p hp => pair_back (h p hp))
theorem opq_small {ps : List Pr} (h : ∀ p ∈ ps, p.nm.size ≤ 100 ∧ p.vl.size ≤ 100) : ∀ x ∈ opPr ps, x.2.length ≤ 1000000 := by
  intro x hx
  obtain ⟨p, hp, rfl⟩ := List.mem_map.1 hx
  obtain ⟨h1, h2⟩ := h p hp
  obtain ⟨nm, vl, b⟩ := p
  replace h1 : nm.size ≤ 100 := h1
  replace h2 : vl.size ≤ 100 := h2
  cases b with
  | true =>
    show nm.data.toList.length ≤ 1000000
    rw [size_list]
    omega
  | false =>
    show (nm.data.toList ++ 61 :: vl.data.toList).length ≤ 1000000
    rw [List.length_append, List.length_cons, size_list, size_list]
    omega
theorem prs_later {X : List Pr} {base : Nat} {w1 w' : World} {A : Option Addr} {n c : Nat} (h : w1.ownsRow base 60 3 (.slice A n c) n (prK.all X)) (hb : Below w1.heap.size w1 w') : prK.At w' w1.heap.size A n X := by
  obtain ⟨A', c', e, _, _, hat, _⟩ := RowK.At.of_own h
  injection e with e1 _ e3
  subst e1 e3
  exact hat.below' hb (Nat.le_refl _)
theorem ints_of' {X : List ByteArray} {base : Nat} {w1 : World} {A : Option Addr} {n c : Nat} (h : w1.ownsRow base 9 1 (.slice A n c) n (stK.all X)) : stK.At w1 w1.heap.size A n X := by
  obtain ⟨A', c', e, _, _, hat, _⟩ := RowK.At.of_own h
  injection e with e1 _ e3
  subst e1 e3
  exact hat
theorem args_inK {H : Type} {enc : TypeId × Value → H} {W : World} {base : Nat} {a : Option Addr} {len cap : Nat} {d : DataW H} {p : List MemPlace} (h : DataW.Trod enc Tryd.prog W base (fun _ => true) true 23 (.slice a len cap) d p) :
    ∃ zs, inK.At W W.heap.size a len zs ∧ len ≤ cap ∧ cap ≤ maxLen := by
  obtain ⟨fuel, hf⟩ := h
  rcases open_ints Tryd.underlying23 Tryd.underlying3 (by kernel_rfl) hf with ⟨hcs, _⟩ | ⟨x, l, c, zs, hcs, _, hl, hm, hz, _, hcell, hwz⟩
  · simp [Value.cells] at hcs
    obtain ⟨rfl, rfl, rfl⟩ := hcs
    exact ⟨[], RowK.At.nil_ _ _ _, by omega, by omega⟩
  · simp [Value.cells] at hcs
    obtain ⟨rfl, rfl, rfl⟩ := hcs
    have hz' : zs.length = cap := by simpa using hz
    refine ⟨zs.take len, ⟨by rw [List.length_take]; omega, fun hn => ?_⟩, hl, hm⟩
    obtain ⟨b, off, spot⟩ := x
    have hc := hcell 0 (by omega)
    have hspot : spot = none := by simpa [Addr.add] using World.cell?_spot hc
    subst hspot
    refine ⟨b, off, rfl, World.block_lt_of_cell? _ ⟨b, off, none⟩ (by simpa [Addr.add] using hc), fun k u hu j v hj => ?_⟩
    rw [List.getElem?_take] at hu
    split at hu
    · have hk := (List.getElem?_eq_some_iff.1 hu).1
      have h1 := hcell k hk
      rw [Addr.add_lit] at h1
      have hj' : [Value.int .i64 u][j]? = some v := hj
      cases j with
      | zero =>
        obtain rfl := Option.some.inj hj'
        rw [Nat.mul_one, Nat.add_zero, h1, List.getD_eq_getElem?_getD, hu, Option.getD_some]
      | succ j => simp at hj'
    · cases hu
theorem args_pairs {H : Type} {enc : TypeId × Value → H} {W : World} {base : Nat} {T E : TypeId} {f0 f1 f2 : Field} (hT : Tryd.prog.underlying T = some (.slice E)) (hE : Tryd.prog.underlying E = some (.struct #[f0, f1, f2])) (hone : oneCellFields Tryd.prog #[f0, f1, f2] = true) (hsz : Tryd.prog.cellsOf E = 3)
    (t0 : f0.type = 9) (t1 : f1.type = 9) (t2 : f2.type = 4)
    {a : Option Addr} {len cap : Nat} {d : DataW H} {p : List MemPlace} (h : DataW.Trod enc Tryd.prog W base (fun _ => true) true T (.slice a len cap) d p) :
    ∃ prs, prK.At W W.heap.size a len prs ∧ len ≤ cap ∧ cap ≤ maxLen := by
  obtain ⟨fuel, hf⟩ := h
  rcases open_slice hT hf with ⟨hcs, _⟩ | ⟨x, l, c, m, n, D, Pl, hcs, _, hl, hm, hmm, _, hi⟩
  · simp [Value.cells] at hcs
    obtain ⟨rfl, rfl, rfl⟩ := hcs
    exact ⟨[], RowK.At.nil_ _ _ _, by omega, by omega⟩
  · simp [Value.cells] at hcs
    obtain ⟨rfl, rfl, rfl⟩ := hcs
    rw [hsz] at hi
    have each : ∀ i : Fin len, ∃ s : Pr, ∃ b o, x.add (i.val * 3) = ⟨b, o, none⟩ ∧ W.cell? ⟨b, o, none⟩ = some (.string s.nm) ∧ W.cell? ⟨b, o + 1, none⟩ = some (.string s.vl) ∧ W.cell? ⟨b, o + 2, none⟩ = some (.bool s.bare) := by
      intro i
      have hlt := i.isLt
      obtain ⟨cs', hc, ht⟩ := hi i.val (by rw [hmm]; simp; omega)
      obtain ⟨_, hcl, hat⟩ := World.cells?_some hc
      obtain ⟨ys, n', _, _, _, hyl, hg⟩ := DataW.trod_struct hE ht
      have fld : ∀ (j : Nat) (f : Field) (hj4 : j < 3), (#[f0, f1, f2] : Array Field)[j]? = some f → ∃ v y, W.cell? ((x.add (i.val * 3)).add j) = some v ∧ DataW.trod enc Tryd.prog W base (fun _ => true) true n' f.type [v] = some y := by
        intro j f hj4 hj
        obtain ⟨ho, hk⟩ := hone_of hone j f hj
        have h1 := hg j f hj
        rw [ho, hk] at h1
        have hl4 : cs'.length = 3 := hcl
        have hd : (cs'.drop j).take 1 = [cs'[j]'(by omega)] := by rw [List.drop_eq_getElem_cons (by omega)]; rfl
        rw [hd, List.getElem?_eq_getElem (by rw [hyl]; exact hj4)] at h1
        exact ⟨_, _, (hat j (by omega)).trans (List.getElem?_eq_getElem (by omega)), h1⟩
      obtain ⟨v0, y0, k0, r0⟩ := fld 0 f0 (by omega) rfl
      obtain ⟨v1, y1, k1, r1⟩ := fld 1 f1 (by omega) rfl
      obtain ⟨v2, y2, k2, r2⟩ := fld 2 f2 (by omega) rfl
      rw [t0] at r0
      rw [t1] at r1
      rw [t2] at r2
      obtain ⟨s0, e0, _⟩ := DataW.trod_string Tryd.underlying9 r0
      obtain ⟨s1, e1, _⟩ := DataW.trod_string Tryd.underlying9 r1
      obtain ⟨b2, e2, _⟩ := DataW.trod_bool Tryd.underlying4 r2
      obtain rfl : v0 = .string s0 := by simpa using e0
      obtain rfl : v1 = .string s1 := by simpa using e1
      obtain rfl : v2 = .bool b2 := by simpa using e2
      generalize x.add (i.val * 3) = q at *
      obtain ⟨b, o, sp⟩ := q
      have hsp : sp = none := by simpa [Addr.add] using World.cell?_spot k0
      subst hsp
      rw [Addr.add_lit] at k0 k1 k2
      rw [Nat.add_zero] at k0
      exact ⟨⟨s0, s1, b2⟩, b, o, rfl, k0, k1, k2⟩
    obtain ⟨F, hF⟩ := Classical.axiomOfChoice each
    refine ⟨List.ofFn F, ⟨List.length_ofFn, fun hm0 => ?_⟩, hl, hm⟩
    obtain ⟨b, o, sp⟩ := x
    obtain ⟨b0, o0, h0, k0, _⟩ := hF ⟨0, hm0⟩
    have hsp : sp = none := by
      have := congrArg Addr.spot h0
      simpa [Addr.add] using this
    subst hsp
    have hb0 : b < W.heap.size := by
      have e : b = b0 := by have := congrArg Addr.block h0; simpa [Addr.add] using this
      rw [e]
      exact World.block_lt_of_cell? _ ⟨b0, o0, none⟩ k0
    refine ⟨b, o, rfl, hb0, fun i s hs j u hj => ?_⟩
    rw [List.getElem?_ofFn] at hs
    split at hs
    · rename_i hi'
      injection hs with hs
      subst hs
      obtain ⟨b1, o1, h1, k1, k2, k3⟩ := hF ⟨i, hi'⟩
      rw [Addr.add_lit] at h1
      injection h1 with e1 e2 _
      have hj' : [Value.string (F ⟨i, hi'⟩).nm, .string (F ⟨i, hi'⟩).vl, .bool (F ⟨i, hi'⟩).bare][j]? = some u := hj
      rw [e1, show o + i * 3 = o1 from e2]
      match j, hj' with
      | 0, hj' => obtain rfl := Option.some.inj hj'; exact k1
      | 1, hj' => obtain rfl := Option.some.inj hj'; exact k2
      | 2, hj' => obtain rfl := Option.some.inj hj'; exact k3
      | j + 3, hj' => simp at hj'
    · cases hs
theorem args_prK {H : Type} {enc : TypeId × Value → H} {W : World} {base : Nat} {a : Option Addr} {len cap : Nat} {d : DataW H} {p : List MemPlace} (h : DataW.Trod enc Tryd.prog W base (fun _ => true) true 56 (.slice a len cap) d p) :
    ∃ prs, prK.At W W.heap.size a len prs ∧ len ≤ cap ∧ cap ≤ maxLen :=
  args_pairs Tryd.underlying56 Tryd.underlying60 (by kernel_rfl) (by kernel_rfl) rfl rfl rfl h
theorem allO_of (ss : List ByteArray) : allO 11 (opOf 11 ss) = txs ss := by
  unfold allO opOf
  rw [List.filter_eq_self.2 (fun x hx => by obtain ⟨p, _, rfl⟩ := List.mem_map.1 hx; rfl), List.map_map]
  rfl
set_option maxHeartbeats 8000000 in
theorem pback_law (A : Option Addr) (n c : Nat) (zs : List Int) (A2 : Option Addr) (n2 c2 : Nat) (ps : List Pr) (w : World) (hat : inK.At w w.heap.size A n zs) (hat2 : prK.At w w.heap.size A2 n2 ps) (hT : Tab7 w) :
    Calls Tryd.prog 6 #[.slice A n c, .slice A2 n2 c2] w fun e w' => e = .returned (.bool true) ∧ Below w.heap.size w w' := by
  obtain ⟨i0, hi0, hz0, hz1, hz2⟩ := info_parts info_st
  have HT := Lib.hid fun W (h : Below w.heap.size w W) => hT.below h
  have HL := Lib.hid (alive16_f w hT)
  clear hT
  by_cases hn : (100 : Int) < n
  · clear hat hat2
    go_enter Tryd.func6, Tryd.ntmps6
    go_wp2_with fail
    refine HL.out.mono ?_
    rintro e w1 ⟨rfl, b1⟩
    have H1 := Lib.hid b1
    clear b1
    try dsimp only
    go_wp2
    go_ret
    exact ⟨rfl, H1.out⟩
  by_cases hn2 : (20 : Int) < n2
  · clear hat hat2
    go_enter Tryd.func6, Tryd.ntmps6
    go_wp2_with fail
    refine HL.out.mono ?_
    rintro e w1 ⟨rfl, b1⟩
    have H1 := Lib.hid b1
    clear b1
    try dsimp only
    go_wp2
    go_ret
    exact ⟨rfl, H1.out⟩
  have HA := Lib.hid (And.intro hat hat2)
  clear hat hat2
  go_enter Tryd.func6, Tryd.ntmps6
  go_wp2_with fail
  refine HL.out.mono ?_
  rintro e w1 ⟨rfl, b1⟩
  have H1 := Lib.hid b1
  clear b1
  try dsimp only
  go_wp2_with fail
  have c2 := pright_f A n c zs w1 _ (HA.out.1.below' H1.out (Nat.le_refl _)) H1.out.size
  cases hq : rightP zs with
  | false =>
    rw [hq] at c2
    refine c2.mono ?_
    rintro e w2 ⟨rfl, b2⟩
    have H2 := Lib.hid (H1.out.trans (b2.mono H1.out.size))
    clear c2 b2
    have HH := Lib.hid H2.out
    obtain ⟨i1, hi1, hy0, hy1, hy2⟩ := info_parts info_pr
    clear i0 hi0 hz0 hz1 hz2
    try dsimp only
    go_wp2
    go_loopw [12, 76] (fun v12 v76 wr => ∃ (k c' : Nat) (A' : Option Addr), k ≤ n2 ∧ v76 = .int .i64 (k : Int) ∧ v12 = .slice A' k c' ∧ Aside (wr.ownsRow w2.heap.size 60 3 (.slice A' k c') k (prK.all ((ps.take k).map normQ)) ∧ Below w2.heap.size w2 wr ∧ ∀ p ∈ ps.take k, (∀ u ∈ p.nm.data.toList, u ≠ 61) ∧ p.nm.size ≤ 100 ∧ p.vl.size ≤ 100)) (fun _ v76 _ => n2 - (intOf v76).toNat)
    case atStart => exact ⟨0, _, _, Nat.zero_le _, rfl, rfl, (show Aside _ from ⟨rk_empty w2 w2.heap.size (Nat.le_refl _) _ _, alloc_below w2 _, fun p hp => absurd hp (by simp)⟩)⟩
    case round =>
      obtain ⟨k, c', A', hk, rfl, rfl, hrel⟩ := hrel
      obtain ⟨hown, hbel, hps⟩ := hrel.out
      clear hrel
      by_cases hlt : k < n2
      · have hsr := HA.out.2.below' (HH.out.trans (hbel.mono HH.out.size)) (Nat.le_refl _)
        obtain ⟨b, off, rfl, hbb, _⟩ := hsr.place (by omega)
        obtain ⟨p, hs⟩ := hsr.get hlt
        have hr := hsr.range hs
        have htk : ps.take (k + 1) = ps.take k ++ [p] := by rw [List.take_add_one, hs]; rfl
        obtain ⟨nm, vl, bare⟩ := p
        replace hr : wr.rangeAt b (off + k * 3) [.string nm, .string vl, .bool bare] := hr
        have hltI : (k : Int) < n2 := by omega
        have HX := Lib.hid (And.intro hown (And.intro hbel (And.intro hps (And.intro htk hbel.size))))
        clear hown hbel hps htk hs hsr
        by_cases hs1 : (100 : Int) < nm.size
        · go_wp2_with (refine wpList_load_mid rfl 60 (.tmp 78) rfl b (off + k * 3) rfl [.string nm, .string vl, .bool bare] _ hr Tryd.underlying60 rfl size_pr1 ?_)
          go_ret
          exact ⟨rfl, (HH.out.trans (HX.out.2.1.mono HH.out.size)).trans ((alloc_below wr _).mono (Nat.le_trans HH.out.size HX.out.2.2.2.2))⟩
        by_cases hs2 : (100 : Int) < vl.size
        · go_wp2_with (refine wpList_load_mid rfl 60 (.tmp 78) rfl b (off + k * 3) rfl [.string nm, .string vl, .bool bare] _ hr Tryd.underlying60 rfl size_pr1 ?_)
          go_ret
          exact ⟨rfl, (HH.out.trans (HX.out.2.1.mono HH.out.size)).trans ((alloc_below wr _).mono (Nat.le_trans HH.out.size HX.out.2.2.2.2))⟩
        go_wp2_with (refine wpList_load_mid rfl 60 (.tmp 78) rfl b (off + k * 3) rfl [.string nm, .string vl, .bool bare] _ hr Tryd.underlying60 rfl size_pr1 ?_)
        go_loop [15] (fun v15 => ∃ i : Nat, i ≤ nm.size ∧ v15 = .int .i64 (i : Int) ∧ Aside (∀ (j : Nat) u, j < i → nm.data.toList[j]? = some u → u ≠ 61)) (fun v15 => nm.size - (intOf v15).toNat)
        case atStart => exact ⟨0, Nat.zero_le _, rfl, (show Aside _ from fun j u h => absurd h (by omega))⟩
        case round =>
          obtain ⟨i, hi, rfl, hrel⟩ := hrel
          by_cases hli : i < nm.size
          · have hliI : (i : Int) < nm.size := by omega
            obtain ⟨y, hy⟩ : ∃ y, nm[i]'hli = y := ⟨_, rfl⟩
            have hyl : nm.data.toList[i]? = some y := by rw [Array.getElem?_toList, Array.getElem?_eq_getElem hli]; exact congrArg some hy
            have hsn : (nm[i]'hli).toNat = y.toNat := by rw [hy]
            by_cases hy61 : y = 61
            · subst hy61
              replace hsn : (nm[i]'hli).toNat = 61 := hsn
              clear hrel hyl hy
              go_wp2
              go_ret
              exact ⟨rfl, (HH.out.trans (HX.out.2.1.mono HH.out.size)).trans ((alloc_below wr _).mono (Nat.le_trans HH.out.size HX.out.2.2.2.2))⟩
            · have hyI : ¬ (y.toNat : Int) = 61 := fun e => hy61 (UInt8.toNat_inj.1 (by show y.toNat = 61; omega))
              have hyJ : ((y.toNat : Int) == 61) = false := beq_eq_false_iff_ne.2 hyI
              have HY := Lib.hid (And.intro hrel.out (And.intro hyl hy61))
              obtain ⟨yn, hyn⟩ : ∃ yn, y.toNat = yn := ⟨_, rfl⟩
              rw [hyn] at hyI hyJ hsn
              clear hrel hyl hy hy61 hyn
              go_wp2
              go_round
              case rel =>
                refine ⟨i + 1, by omega, by go_num, (show Aside _ from fun j u hj ht => ?_)⟩
                by_cases e : j = i
                · subst e
                  rw [HY.out.2.1] at ht
                  obtain rfl := Option.some.inj ht
                  exact HY.out.2.2
                · exact HY.out.1 j u (by omega) ht
              case measure => simp [intOf]; omega
          · have hliI : ¬ (i : Int) < nm.size := by omega
            have hno : ∀ u ∈ nm.data.toList, u ≠ 61 := fun u hu => by
              obtain ⟨j, hj⟩ := List.mem_iff_getElem?.1 hu
              exact hrel.out j u (by have := (List.getElem?_eq_some_iff.1 hj).1; rw [size_list] at this; omega) hj
            have HN := Lib.hid hno
            clear hrel hno
            cases bare with
            | true =>
              go_wp2_with (at_builtin; go_loud (refine prK.append_one (wr.alloc (.cells #[.string nm, .string ⟨#[]⟩, .bool true] 60)) rfl (.tmp 105) (.tmp 107) 56 rfl w2.heap.size 60 i1 _ 40 Tryd.underlying56 hi1 hy0 hy1 hy2 rfl (.slice A' k c') k _ rfl (HX.out.1.alloc _) ⟨nm, ⟨#[]⟩, true⟩ _ rfl _ (by rw [alloc_size]; rfl) (by omega) (by unfold maxLen; omega) (by have := HX.out.2.2.2.2; rw [alloc_size]; omega) ?_); intro A6 c6 w6 hown6 hgr6; have H6 := Lib.hid (And.intro hown6 hgr6); clear hown6 hgr6)
              go_roundw
              case rel =>
                refine ⟨k + 1, c6, A6, by omega, by go_num, rfl, (show Aside _ from ⟨?_, ?_, ?_⟩)⟩
                · rw [HX.out.2.2.2.1, List.map_append]; exact H6.out.1
                · exact rk_in' ((HX.out.2.1.trans ((alloc_below wr _).mono HX.out.2.2.2.2)).trans ((alloc_below (wr.alloc _) _).mono (by have := HX.out.2.2.2.2; rw [alloc_size]; omega))) ((HX.out.1.alloc _).alloc _) H6.out.2 (by have := HX.out.2.2.2.2; rw [alloc_size, alloc_size]; omega)
                · intro p hp
                  rw [HX.out.2.2.2.1] at hp
                  rcases List.mem_append.1 hp with hp | hp
                  · exact HX.out.2.2.1 p hp
                  · obtain rfl := List.mem_singleton.1 hp
                    exact ⟨HN.out, by show nm.size ≤ 100; omega, by show vl.size ≤ 100; omega⟩
              case measure => simp [intOf]; omega
            | false =>
              go_wp2_with (at_builtin; go_loud (refine prK.append_one (wr.alloc (.cells #[.string nm, .string vl, .bool false] 60)) rfl (.tmp 105) (.tmp 107) 56 rfl w2.heap.size 60 i1 _ 40 Tryd.underlying56 hi1 hy0 hy1 hy2 rfl (.slice A' k c') k _ rfl (HX.out.1.alloc _) ⟨nm, vl, false⟩ _ rfl _ (by rw [alloc_size]; rfl) (by omega) (by unfold maxLen; omega) (by have := HX.out.2.2.2.2; rw [alloc_size]; omega) ?_); intro A6 c6 w6 hown6 hgr6; have H6 := Lib.hid (And.intro hown6 hgr6); clear hown6 hgr6)
              go_roundw
              case rel =>
                refine ⟨k + 1, c6, A6, by omega, by go_num, rfl, (show Aside _ from ⟨?_, ?_, ?_⟩)⟩
                · rw [HX.out.2.2.2.1, List.map_append]; exact H6.out.1
                · exact rk_in' ((HX.out.2.1.trans ((alloc_below wr _).mono HX.out.2.2.2.2)).trans ((alloc_below (wr.alloc _) _).mono (by have := HX.out.2.2.2.2; rw [alloc_size]; omega))) ((HX.out.1.alloc _).alloc _) H6.out.2 (by have := HX.out.2.2.2.2; rw [alloc_size, alloc_size]; omega)
                · intro p hp
                  rw [HX.out.2.2.2.1] at hp
                  rcases List.mem_append.1 hp with hp | hp
                  · exact HX.out.2.2.1 p hp
                  · obtain rfl := List.mem_singleton.1 hp
                    exact ⟨HN.out, by show nm.size ≤ 100; omega, by show vl.size ≤ 100; omega⟩
              case measure => simp [intOf]; omega
      · obtain rfl : k = n2 := by omega
        have hltI : ¬ (k : Int) < k := by omega
        rw [List.take_of_length_le (by rw [HA.out.2.len]; exact Nat.le_refl _)] at hown hps
        have hbk := all_back (fun p hp => (hps p hp).1)
        have HX := Lib.hid (And.intro hown (And.intro hbel hbk))
        have hq := pqueries_f A2 k c2 ps wr _ (HA.out.2.below' (HH.out.trans (hbel.mono HH.out.size)) (Nat.le_refl _)) (Nat.le_trans HH.out.size hbel.size) (by omega) (fun p hp => by have := (hps p hp).2; omega)
        have hsm := opq_small (fun p hp => (hps p hp).2)
        have H7 := Lib.hid (And.intro hq (And.intro hsm HA.out.2.len))
        clear hown hbel hps hbk hq hsm hlt
        go_wp2_with fail
        refine H7.out.1.mono ?_
        rintro e w7 ⟨A7, n7, d7, us7, rfl, hc7, hn7, hos7, b7⟩
        have hn7k : n7 = k := by rw [hn7.out, show (opPr ps).length = ps.length from List.length_map _]; exact H7.out.2.2
        obtain rfl := hn7k
        have H8 := Lib.hid (And.intro hos7 b7)
        clear hc7 hn7 hos7 b7
        try dsimp only
        go_wp2_with fail
        have c8 := query_f A7 n7 d7 us7 _ w7 _ H8.out.1 (Nat.le_refl _) (by omega) H7.out.2.1
        rw [HX.out.2.2] at c8
        refine c8.mono ?_
        rintro e w8 ⟨A8, n8, d8, rfl, hc8, hn8, hown8, b8⟩
        have hn8k : n8 = n7 := by rw [hn8.out, List.length_map]; exact H7.out.2.2
        obtain rfl := hn8k
        have H9 := Lib.hid (And.intro (prs_later hown8 (Below.refl _ _)) (H8.out.2.trans (b8.mono H8.out.2.size)))
        clear hc8 hn8 hown8 b8 c8
        try dsimp only
        go_wp2_with fail
        refine (samepairs_f A8 A' n8 d8 c' (ps.map normQ) w8 _ _ H9.out.1 (prs_later HX.out.1 H9.out.2) (by omega)).mono ?_
        rintro e w9 ⟨rfl, m, rfl⟩
        try dsimp only
        go_wp2
        go_ret
        exact ⟨rfl, (HH.out.trans ((HX.out.2.1.trans (H9.out.2.mono HX.out.2.1.size)).mono HH.out.size)).trans ((below_drewN _ _).mono (Nat.le_trans HH.out.size (Nat.le_trans HX.out.2.1.size H9.out.2.size)))⟩
  | true =>
    rw [hq] at c2
    have hfew := (right_in hq).1
    have hin := (right_in hq).2
    have hrt := path_text hq
    have hn3 : n ≤ 3 := by have := HA.out.1.len; omega
    refine c2.mono ?_
    rintro e w2 ⟨rfl, b2⟩
    have H2 := Lib.hid (H1.out.trans (b2.mono H1.out.size))
    have HQ := Lib.hid (And.intro hin (And.intro hrt hfew))
    clear c2 b2 hin hrt hfew
    try dsimp only
    go_wp2_with fail
    have c3 := ptext_f A n c zs w2 _ (HA.out.1.below' H2.out (Nat.le_refl _)) H2.out.size (HT.out w2 H2.out).d
    obtain ⟨tx, htx⟩ : ∃ tx : ByteArray, ⟨(textP zs).toArray⟩ = tx := ⟨_, rfl⟩
    have htl : tx.data.toList = textP zs := by rw [← htx]
    rw [htx] at c3
    refine c3.mono ?_
    rintro e w3 ⟨rfl, b3⟩
    have H3 := Lib.hid (H2.out.trans (b3.mono H2.out.size))
    have htz : tx.size ≤ 1000000 := by rw [← size_list, htl]; exact text_small HQ.out.1 HQ.out.2.2
    have c4 := pread_f tx htz w3 (HT.out w3 H3.out).e
    rw [htl, HQ.out.2.1] at c4
    have H4 := Lib.hid c4
    clear c3 b3 c4 htx htl htz
    try dsimp only
    go_wp2_with fail
    refine H4.out.mono ?_
    rintro e w4 ⟨A4, n4, c4, rfl, hc4, hn4, hown4, b4⟩
    obtain rfl : n4 = n := by rw [hn4.out]; exact HA.out.1.len
    have H5 := Lib.hid (And.intro (H3.out.trans (b4.mono H3.out.size)) (ints_later hown4 (Below.refl _ _)))
    clear hc4 hn4 hown4 b4
    try dsimp only
    go_wp2
    go_loopw [7, 37] (fun v7 v37 wr => ∃ (k c' : Nat) (A' : Option Addr), k ≤ n4 ∧ v37 = .int .i64 (k : Int) ∧ v7 = .slice A' k c' ∧ Aside (∃ Y, txs Y = (zs.take k).map Lib.itoa ∧ wr.ownsRow w4.heap.size 9 1 (.slice A' k c') k (stK.all Y) ∧ Below w4.heap.size w4 wr)) (fun _ v37 _ => n4 - (intOf v37).toNat)
    case atStart => exact ⟨0, _, _, Nat.zero_le _, rfl, rfl, (show Aside _ from ⟨[], rfl, rk_empty w4 w4.heap.size (Nat.le_refl _) _ _, alloc_below w4 _⟩)⟩
    case round =>
      obtain ⟨k, c', A', hk, rfl, rfl, hrel⟩ := hrel
      obtain ⟨Y, hY, hown, hbel⟩ := hrel.out
      clear hrel
      by_cases hlt : k < n4
      · have hup := H5.out.1.trans (hbel.mono H5.out.1.size)
        have hsr := HA.out.1.below' hup (Nat.le_refl _)
        obtain ⟨b, off, rfl, hbb, _⟩ := hsr.place (by omega)
        obtain ⟨z, hs⟩ := hsr.get hlt
        have hcell := hsr.range hs 0 _ rfl
        rw [Nat.mul_one, Nat.add_zero] at hcell
        have hz := HQ.out.1 z (List.mem_of_getElem? hs)
        have htk : (zs.take (k + 1)).map Lib.itoa = (zs.take k).map Lib.itoa ++ [Lib.itoa z] := by rw [List.take_add_one, hs, List.map_append]; rfl
        have hal := alloc_below wr (.cells #[.int .i64 z] 3)
        have ct := ptext_f (some ⟨wr.heap.size, 0, none⟩) 1 1 [z] (wr.alloc (.cells #[.int .i64 z] 3)) (wr.heap.size + 1) (at_lit inK wr 3 #[.int .i64 z] (0, 0) [z] rfl) (by rw [alloc_size]; exact Nat.le_refl _) (HT.out _ (hup.trans (hal.mono hup.size))).d
        obtain ⟨t, ht⟩ : ∃ t : ByteArray, ⟨(textP [z]).toArray⟩ = t := ⟨_, rfl⟩
        have htl : t.data.toList = 47 :: Lib.itoa z := by rw [← ht, ← text_one hz]
        rw [ht] at ct
        have hil := itoa_len z (by omega) (by omega)
        have hts : t.size = (Lib.itoa z).length + 1 := by rw [← size_list, htl, List.length_cons]
        have ht1 : 1 ≤ t.size := by omega
        have ht2 : t.size ≤ 1000 := by omega
        have hex : (t.extract 1 t.size).data.toList = Lib.itoa z := by rw [Lib.ext_list, htl]; rfl
        have hYt : txs (Y ++ [t.extract 1 t.size]) = (zs.take (k + 1)).map Lib.itoa := by
          rw [htk, ← hY, ← hex]; unfold txs; rw [List.map_append]; rfl
        have hltI : (k : Int) < n4 := by omega
        have ht1I : (1 : Int) ≤ t.size := by omega
        have HX := Lib.hid (And.intro ct (And.intro hYt (And.intro (hown.alloc (.cells #[.int .i64 z] 3)) (hbel.trans (hal.mono hbel.size)))))
        clear ct hYt hown hbel hsr hs htk hal ht htl hil hts hex hup hY
        go_wp2_with fail
        refine HX.out.1.mono ?_
        rintro e w5 ⟨rfl, b5⟩
        have H6 := Lib.hid (And.intro (rk_below HX.out.2.2.1 b5) (And.intro (HX.out.2.2.2.trans (b5.mono HX.out.2.2.2.size)) (Nat.le_trans HX.out.2.2.2.size b5.size)))
        clear b5
        try dsimp only
        go_wp2_with (at_builtin; go_loud (refine stK.append_one w5 rfl (.tmp 41) (.tmp 46) 53 rfl w4.heap.size 9 i0 _ 16 Tryd.underlying53 hi0 hz0 hz1 hz2 rfl (.slice A' k c') k _ rfl H6.out.1 (t.extract 1 t.size) _ rfl _ rfl (by omega) (by unfold maxLen; omega) H6.out.2.2 ?_); intro A6 c6 w6 hown6 hgr6; have H7 := Lib.hid (And.intro hown6 hgr6); clear hown6 hgr6)
        go_roundw
        case rel => exact ⟨k + 1, c6, A6, by omega, by go_num, rfl, (show Aside _ from ⟨_, HX.out.2.1, H7.out.1, rk_in' (H6.out.2.1.trans (Below.mono (alloc_below w5 _) H6.out.2.2)) (H6.out.1.alloc _) H7.out.2 (by have := H6.out.2.2; rw [alloc_size]; omega)⟩)⟩
        case measure => simp [intOf]; omega
      · obtain rfl : k = n4 := by omega
        have hltI : ¬ (k : Int) < k := by omega
        rw [List.take_of_length_le (by rw [HA.out.1.len]; exact Nat.le_refl _)] at hY
        have hYl : Y.length = k := RowK.own_len hown
        have hYm : ∀ s ∈ Y, s.size ≤ 1000000 := fun x hx => by
          have h1 : x.data.toList ∈ txs Y := List.mem_map_of_mem hx
          rw [hY] at h1
          obtain ⟨z, hz, he⟩ := List.mem_map.1 h1
          have hz2 := HQ.out.1 z hz
          have h2 := itoa_len z (by omega) (by omega)
          rw [he, size_list] at h2
          omega
        have hop : ∀ x ∈ opOf 11 Y, x.2.length ≤ 1000000 := fun x hx => by
          obtain ⟨s, hs, rfl⟩ := List.mem_map.1 hx
          show s.data.toList.length ≤ 1000000
          rw [size_list]
          exact hYm s hs
        have hat := ints_of' hown
        have cq := popts_f A' k c' Y wr _ hat (Nat.le_refl _) (by omega) hYm
        have hnq : OfRet16 (allO 11 (opOf 11 Y)) = NumsRet (some zs) := by
          funext W
          rw [allO_of, hY, of_few (by rw [List.length_map]; have := HQ.out.2.2; omega), nums_itoa HQ.out.1]
        have HX := Lib.hid (And.intro cq (And.intro hbel (And.intro hnq (And.intro hop hYl))))
        clear hY hown hbel hYl hYm hop hat cq hnq hlt
        go_wp2_with fail
        refine HX.out.1.mono ?_
        rintro e w7 ⟨A7, n7, d7, us7, rfl, hc7, hn7, hos7, b7⟩
        have hn7k : n7 = k := by rw [hn7.out, show (opOf 11 Y).length = Y.length from List.length_map _]; exact HX.out.2.2.2.2
        obtain rfl := hn7k
        have H8 := Lib.hid (And.intro hos7 (HX.out.2.1.trans (b7.mono HX.out.2.1.size)))
        clear hc7 hn7 hos7 b7
        try dsimp only
        go_wp2_with fail
        have c8 := pof_f A7 n7 d7 us7 _ w7 _ H8.out.1 (Nat.le_refl _) (by omega) HX.out.2.2.2.1 (HT.out w7 (H5.out.1.trans (H8.out.2.mono H5.out.1.size))).e
        rw [HX.out.2.2.1] at c8
        refine c8.mono ?_
        rintro e w8 ⟨A8, n8, d8, rfl, hc8, hn8, hown8, b8⟩
        have hn8k : n8 = n7 := by rw [hn8.out]; exact HA.out.1.len
        obtain rfl := hn8k
        have hup8 := H8.out.2.trans (b8.mono H8.out.2.size)
        have H9 := Lib.hid (And.intro (ints_later hown8 (Below.refl _ _)) (And.intro hup8 (H5.out.1.trans (hup8.mono H5.out.1.size))))
        clear hc8 hn8 hown8 b8 c8 hup8
        try dsimp only
        go_wp2_with fail
        have c9 := sameints_f A A4 n8 c n8 c4 zs zs w8 _ _ (HA.out.1.below' H9.out.2.2 (Nat.le_refl _)) (H5.out.2.below' H9.out.2.1 (Nat.le_refl _)) (by omega) (by omega)
        rw [decide_eq_true rfl] at c9
        refine c9.mono ?_
        rintro e w9 ⟨rfl, m9, hw9⟩
        have b9 : Below w8.heap.size w8 w9 := by rw [hw9]; exact below_drewN _ _
        have HA9 := Lib.hid (And.intro (H9.out.2.2.trans (b9.mono H9.out.2.2.size)) b9)
        clear c9 b9 hw9
        try dsimp only
        go_wp2_with fail
        have c10 := sameints_f A A8 n8 c n8 d8 zs zs w9 _ _ (HA.out.1.below' HA9.out.1 (Nat.le_refl _)) (H9.out.1.below' HA9.out.2 (Nat.le_refl _)) (by omega) (by omega)
        rw [decide_eq_true rfl] at c10
        refine c10.mono ?_
        rintro e wA ⟨rfl, m10, hw10⟩
        have b10 : Below w9.heap.size w9 wA := by rw [hw10]; exact below_drewN _ _
        have HB9 := Lib.hid (HA9.out.1.trans (b10.mono HA9.out.1.size))
        clear c10 b10 hw10
        have HH := Lib.hid HB9.out
        obtain ⟨i1, hi1, hy0, hy1, hy2⟩ := info_parts info_pr
        clear i0 hi0 hz0 hz1 hz2
        try dsimp only
        go_wp2
        go_loopw [12, 76] (fun v12 v76 wr => ∃ (k c' : Nat) (A' : Option Addr), k ≤ n2 ∧ v76 = .int .i64 (k : Int) ∧ v12 = .slice A' k c' ∧ Aside (wr.ownsRow wA.heap.size 60 3 (.slice A' k c') k (prK.all ((ps.take k).map normQ)) ∧ Below wA.heap.size wA wr ∧ ∀ p ∈ ps.take k, (∀ u ∈ p.nm.data.toList, u ≠ 61) ∧ p.nm.size ≤ 100 ∧ p.vl.size ≤ 100)) (fun _ v76 _ => n2 - (intOf v76).toNat)
        case atStart => exact ⟨0, _, _, Nat.zero_le _, rfl, rfl, (show Aside _ from ⟨rk_empty wA wA.heap.size (Nat.le_refl _) _ _, alloc_below wA _, fun p hp => absurd hp (by simp)⟩)⟩
        case round =>
          obtain ⟨k, c', A', hk, rfl, rfl, hrel⟩ := hrel
          obtain ⟨hown, hbel, hps⟩ := hrel.out
          clear hrel
          by_cases hlt : k < n2
          · have hsr := HA.out.2.below' (HH.out.trans (hbel.mono HH.out.size)) (Nat.le_refl _)
            obtain ⟨b, off, rfl, hbb, _⟩ := hsr.place (by omega)
            obtain ⟨p, hs⟩ := hsr.get hlt
            have hr := hsr.range hs
            have htk : ps.take (k + 1) = ps.take k ++ [p] := by rw [List.take_add_one, hs]; rfl
            obtain ⟨nm, vl, bare⟩ := p
            replace hr : wr.rangeAt b (off + k * 3) [.string nm, .string vl, .bool bare] := hr
            have hltI : (k : Int) < n2 := by omega
            have HX := Lib.hid (And.intro hown (And.intro hbel (And.intro hps (And.intro htk hbel.size))))
            clear hown hbel hps htk hs hsr
            by_cases hs1 : (100 : Int) < nm.size
            · go_wp2_with (refine wpList_load_mid rfl 60 (.tmp 78) rfl b (off + k * 3) rfl [.string nm, .string vl, .bool bare] _ hr Tryd.underlying60 rfl size_pr1 ?_)
              go_ret
              exact ⟨rfl, (HH.out.trans (HX.out.2.1.mono HH.out.size)).trans ((alloc_below wr _).mono (Nat.le_trans HH.out.size HX.out.2.2.2.2))⟩
            by_cases hs2 : (100 : Int) < vl.size
            · go_wp2_with (refine wpList_load_mid rfl 60 (.tmp 78) rfl b (off + k * 3) rfl [.string nm, .string vl, .bool bare] _ hr Tryd.underlying60 rfl size_pr1 ?_)
              go_ret
              exact ⟨rfl, (HH.out.trans (HX.out.2.1.mono HH.out.size)).trans ((alloc_below wr _).mono (Nat.le_trans HH.out.size HX.out.2.2.2.2))⟩
            go_wp2_with (refine wpList_load_mid rfl 60 (.tmp 78) rfl b (off + k * 3) rfl [.string nm, .string vl, .bool bare] _ hr Tryd.underlying60 rfl size_pr1 ?_)
            go_loop [15] (fun v15 => ∃ i : Nat, i ≤ nm.size ∧ v15 = .int .i64 (i : Int) ∧ Aside (∀ (j : Nat) u, j < i → nm.data.toList[j]? = some u → u ≠ 61)) (fun v15 => nm.size - (intOf v15).toNat)
            case atStart => exact ⟨0, Nat.zero_le _, rfl, (show Aside _ from fun j u h => absurd h (by omega))⟩
            case round =>
              obtain ⟨i, hi, rfl, hrel⟩ := hrel
              by_cases hli : i < nm.size
              · have hliI : (i : Int) < nm.size := by omega
                obtain ⟨y, hy⟩ : ∃ y, nm[i]'hli = y := ⟨_, rfl⟩
                have hyl : nm.data.toList[i]? = some y := by rw [Array.getElem?_toList, Array.getElem?_eq_getElem hli]; exact congrArg some hy
                have hsn : (nm[i]'hli).toNat = y.toNat := by rw [hy]
                by_cases hy61 : y = 61
                · subst hy61
                  replace hsn : (nm[i]'hli).toNat = 61 := hsn
                  clear hrel hyl hy
                  go_wp2
                  go_ret
                  exact ⟨rfl, (HH.out.trans (HX.out.2.1.mono HH.out.size)).trans ((alloc_below wr _).mono (Nat.le_trans HH.out.size HX.out.2.2.2.2))⟩
                · have hyI : ¬ (y.toNat : Int) = 61 := fun e => hy61 (UInt8.toNat_inj.1 (by show y.toNat = 61; omega))
                  have hyJ : ((y.toNat : Int) == 61) = false := beq_eq_false_iff_ne.2 hyI
                  have HY := Lib.hid (And.intro hrel.out (And.intro hyl hy61))
                  obtain ⟨yn, hyn⟩ : ∃ yn, y.toNat = yn := ⟨_, rfl⟩
                  rw [hyn] at hyI hyJ hsn
                  clear hrel hyl hy hy61 hyn
                  go_wp2
                  go_round
                  case rel =>
                    refine ⟨i + 1, by omega, by go_num, (show Aside _ from fun j u hj ht => ?_)⟩
                    by_cases e : j = i
                    · subst e
                      rw [HY.out.2.1] at ht
                      obtain rfl := Option.some.inj ht
                      exact HY.out.2.2
                    · exact HY.out.1 j u (by omega) ht
                  case measure => simp [intOf]; omega
              · have hliI : ¬ (i : Int) < nm.size := by omega
                have hno : ∀ u ∈ nm.data.toList, u ≠ 61 := fun u hu => by
                  obtain ⟨j, hj⟩ := List.mem_iff_getElem?.1 hu
                  exact hrel.out j u (by have := (List.getElem?_eq_some_iff.1 hj).1; rw [size_list] at this; omega) hj
                have HN := Lib.hid hno
                clear hrel hno
                cases bare with
                | true =>
                  go_wp2_with (at_builtin; go_loud (refine prK.append_one (wr.alloc (.cells #[.string nm, .string ⟨#[]⟩, .bool true] 60)) rfl (.tmp 105) (.tmp 107) 56 rfl wA.heap.size 60 i1 _ 40 Tryd.underlying56 hi1 hy0 hy1 hy2 rfl (.slice A' k c') k _ rfl (HX.out.1.alloc _) ⟨nm, ⟨#[]⟩, true⟩ _ rfl _ (by rw [alloc_size]; rfl) (by omega) (by unfold maxLen; omega) (by have := HX.out.2.2.2.2; rw [alloc_size]; omega) ?_); intro A6 c6 w6 hown6 hgr6; have H6 := Lib.hid (And.intro hown6 hgr6); clear hown6 hgr6)
                  go_roundw
                  case rel =>
                    refine ⟨k + 1, c6, A6, by omega, by go_num, rfl, (show Aside _ from ⟨?_, ?_, ?_⟩)⟩
                    · rw [HX.out.2.2.2.1, List.map_append]; exact H6.out.1
                    · exact rk_in' ((HX.out.2.1.trans ((alloc_below wr _).mono HX.out.2.2.2.2)).trans ((alloc_below (wr.alloc _) _).mono (by have := HX.out.2.2.2.2; rw [alloc_size]; omega))) ((HX.out.1.alloc _).alloc _) H6.out.2 (by have := HX.out.2.2.2.2; rw [alloc_size, alloc_size]; omega)
                    · intro p hp
                      rw [HX.out.2.2.2.1] at hp
                      rcases List.mem_append.1 hp with hp | hp
                      · exact HX.out.2.2.1 p hp
                      · obtain rfl := List.mem_singleton.1 hp
                        exact ⟨HN.out, by show nm.size ≤ 100; omega, by show vl.size ≤ 100; omega⟩
                  case measure => simp [intOf]; omega
                | false =>
                  go_wp2_with (at_builtin; go_loud (refine prK.append_one (wr.alloc (.cells #[.string nm, .string vl, .bool false] 60)) rfl (.tmp 105) (.tmp 107) 56 rfl wA.heap.size 60 i1 _ 40 Tryd.underlying56 hi1 hy0 hy1 hy2 rfl (.slice A' k c') k _ rfl (HX.out.1.alloc _) ⟨nm, vl, false⟩ _ rfl _ (by rw [alloc_size]; rfl) (by omega) (by unfold maxLen; omega) (by have := HX.out.2.2.2.2; rw [alloc_size]; omega) ?_); intro A6 c6 w6 hown6 hgr6; have H6 := Lib.hid (And.intro hown6 hgr6); clear hown6 hgr6)
                  go_roundw
                  case rel =>
                    refine ⟨k + 1, c6, A6, by omega, by go_num, rfl, (show Aside _ from ⟨?_, ?_, ?_⟩)⟩
                    · rw [HX.out.2.2.2.1, List.map_append]; exact H6.out.1
                    · exact rk_in' ((HX.out.2.1.trans ((alloc_below wr _).mono HX.out.2.2.2.2)).trans ((alloc_below (wr.alloc _) _).mono (by have := HX.out.2.2.2.2; rw [alloc_size]; omega))) ((HX.out.1.alloc _).alloc _) H6.out.2 (by have := HX.out.2.2.2.2; rw [alloc_size, alloc_size]; omega)
                    · intro p hp
                      rw [HX.out.2.2.2.1] at hp
                      rcases List.mem_append.1 hp with hp | hp
                      · exact HX.out.2.2.1 p hp
                      · obtain rfl := List.mem_singleton.1 hp
                        exact ⟨HN.out, by show nm.size ≤ 100; omega, by show vl.size ≤ 100; omega⟩
                  case measure => simp [intOf]; omega
          · obtain rfl : k = n2 := by omega
            have hltI : ¬ (k : Int) < k := by omega
            rw [List.take_of_length_le (by rw [HA.out.2.len]; exact Nat.le_refl _)] at hown hps
            have hbk := all_back (fun p hp => (hps p hp).1)
            have HX := Lib.hid (And.intro hown (And.intro hbel hbk))
            have hq := pqueries_f A2 k c2 ps wr _ (HA.out.2.below' (HH.out.trans (hbel.mono HH.out.size)) (Nat.le_refl _)) (Nat.le_trans HH.out.size hbel.size) (by omega) (fun p hp => by have := (hps p hp).2; omega)
            have hsm := opq_small (fun p hp => (hps p hp).2)
            have H7 := Lib.hid (And.intro hq (And.intro hsm HA.out.2.len))
            clear hown hbel hps hbk hq hsm hlt
            go_wp2_with fail
            refine H7.out.1.mono ?_
            rintro e w7 ⟨A7, n7, d7, us7, rfl, hc7, hn7, hos7, b7⟩
            have hn7k : n7 = k := by rw [hn7.out, show (opPr ps).length = ps.length from List.length_map _]; exact H7.out.2.2
            obtain rfl := hn7k
            have H8 := Lib.hid (And.intro hos7 b7)
            clear hc7 hn7 hos7 b7
            try dsimp only
            go_wp2_with fail
            have c8 := query_f A7 n7 d7 us7 _ w7 _ H8.out.1 (Nat.le_refl _) (by omega) H7.out.2.1
            rw [HX.out.2.2] at c8
            refine c8.mono ?_
            rintro e w8 ⟨A8, n8, d8, rfl, hc8, hn8, hown8, b8⟩
            have hn8k : n8 = n7 := by rw [hn8.out, List.length_map]; exact H7.out.2.2
            obtain rfl := hn8k
            have H9 := Lib.hid (And.intro (prs_later hown8 (Below.refl _ _)) (H8.out.2.trans (b8.mono H8.out.2.size)))
            clear hc8 hn8 hown8 b8 c8
            try dsimp only
            go_wp2_with fail
            refine (samepairs_f A8 A' n8 d8 c' (ps.map normQ) w8 _ _ H9.out.1 (prs_later HX.out.1 H9.out.2) (by omega)).mono ?_
            rintro e w9 ⟨rfl, m, rfl⟩
            try dsimp only
            go_wp2
            go_ret
            exact ⟨rfl, (HH.out.trans ((HX.out.2.1.trans (H9.out.2.mono HX.out.2.1.size)).mono HH.out.size)).trans ((below_drewN _ _).mono (Nat.le_trans HH.out.size (Nat.le_trans HX.out.2.1.size H9.out.2.size)))⟩
end Go.Proofs.YthnbcilpallhjaaDoor
