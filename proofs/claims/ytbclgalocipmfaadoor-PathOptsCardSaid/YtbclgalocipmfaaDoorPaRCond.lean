/-
  The document's condition of a message's pairs.
-/
import Derived.Test.YtbclgalocipmfaaDoorPaRQuery
namespace Go.Proofs.YtbclgalocipmfaaDoor
open Go.RowKit
set_option maxRecDepth 100000
set_option linter.unusedVariables false
theorem numM_ref (l : List UInt8) : numM 65535 l = match signedQ l with | some v => (if 0 ≤ v ∧ v ≤ 65535 then some v.toNat else none) | none => none := by
  by_cases h : l.head? = some 45
  · have hs : signedQ l = (match numM 2147483647 (l.drop 1) with | some v => if v = 0 then none else some (-(v : Int)) | none => none) := by
      unfold signedQ
      rw [if_pos h]
      cases numM 2147483647 (l.drop 1) <;> rfl
    obtain ⟨r, hr⟩ : ∃ r, l = 45 :: r := by
      cases l with
      | nil => cases h
      | cons x t => exact ⟨t, by rw [List.head?_cons] at h; rw [Option.some.inj h]⟩
    rw [hs, hr, numM_minus]
    cases numM 2147483647 (List.drop 1 (45 :: r)) with
    | none => rfl
    | some v =>
      by_cases hv : v = 0
      · simp [hv]
      · have h2 : ¬ (0 ≤ -(v : Int) ∧ -(v : Int) ≤ 65535) := by omega
        simp only [if_neg hv]
        rw [if_neg h2]
  · have hs : signedQ l = (match numM 2147483647 l with | some v => some (v : Int) | none => none) := by
      unfold signedQ
      rw [if_neg h]
      cases numM 2147483647 l <;> rfl
    rw [hs]
    unfold numM
    by_cases hc : l.length = 0 ∨ 1 < l.length ∧ l.head? = some 48
    · rw [if_pos hc, if_pos hc]
    · rw [if_neg hc, if_neg hc]
      cases digs l 0 with
      | none => rfl
      | some v =>
        by_cases h1 : v ≤ 65535
        · have h2 : v ≤ 2147483647 := by omega
          have h3 : 0 ≤ (v : Int) ∧ (v : Int) ≤ 65535 := by omega
          simp only [if_pos h1, if_pos h2]
          rw [if_pos h3, Int.toNat_natCast]
        · by_cases h2 : v ≤ 2147483647
          · have h3 : ¬ (0 ≤ (v : Int) ∧ (v : Int) ≤ 65535) := by omega
            simp only [if_neg h1, if_pos h2]
            rw [if_neg h3]
          · simp only [if_neg h1, if_neg h2]
theorem signed_nil : signedQ [] = none := rfl
theorem pairQ_bare {l : List UInt8} (h : (pairQ l).bare = true) : (pairQ l).vl.data.toList = [] := by
  unfold pairQ at h ⊢
  dsimp only at h ⊢
  have h1 : ¬ ¬ Lib.indexByte l 61 = -1 := fun e => by rw [decide_eq_true e] at h; cases h
  show (cutB l 61) = []
  unfold cutB
  rw [if_pos (Classical.not_not.1 h1)]
/-- What a pair tells, in the document's order. -/
theorem tell_cases (c : Cq) (nm vl : List UInt8) (bare : Bool) (hb : bare = true → vl = []) :
    (nm ≠ [112, 109, 105, 110] ∧ nm ≠ [112, 109, 97, 120] ∧ nm ≠ [103, 116] ∧ nm ≠ [108, 116] ∧ nm ≠ [115, 116] ∧ tellQ c nm vl = some c) ∨
    (nm = [112, 109, 105, 110] ∧ tellQ c nm vl = none ∧ bare = true) ∨
    (nm = [112, 109, 105, 110] ∧ tellQ c nm vl = none ∧ bare = false ∧ signedQ vl = none) ∨
    (nm = [112, 109, 105, 110] ∧ tellQ c nm vl = none ∧ bare = false ∧ ∃ v, signedQ vl = some v ∧ v < 0) ∨
    (nm = [112, 109, 105, 110] ∧ tellQ c nm vl = none ∧ bare = false ∧ ∃ v, signedQ vl = some v ∧ ¬ v < 0 ∧ 65535 < v) ∨
    (nm = [112, 109, 105, 110] ∧ bare = false ∧ ∃ v, signedQ vl = some v ∧ ¬ v < 0 ∧ v ≤ 65535 ∧ tellQ c nm vl = some { c with a := v, ha := true }) ∨
    (nm ≠ [112, 109, 105, 110] ∧ nm = [112, 109, 97, 120] ∧ tellQ c nm vl = none ∧ bare = true) ∨
    (nm ≠ [112, 109, 105, 110] ∧ nm = [112, 109, 97, 120] ∧ tellQ c nm vl = none ∧ bare = false ∧ signedQ vl = none) ∨
    (nm ≠ [112, 109, 105, 110] ∧ nm = [112, 109, 97, 120] ∧ tellQ c nm vl = none ∧ bare = false ∧ ∃ v, signedQ vl = some v ∧ v < 0) ∨
    (nm ≠ [112, 109, 105, 110] ∧ nm = [112, 109, 97, 120] ∧ tellQ c nm vl = none ∧ bare = false ∧ ∃ v, signedQ vl = some v ∧ ¬ v < 0 ∧ 65535 < v) ∨
    (nm ≠ [112, 109, 105, 110] ∧ nm = [112, 109, 97, 120] ∧ bare = false ∧ ∃ v, signedQ vl = some v ∧ ¬ v < 0 ∧ v ≤ 65535 ∧ tellQ c nm vl = some { c with b := v, hb := true }) ∨
    (nm ≠ [112, 109, 105, 110] ∧ nm ≠ [112, 109, 97, 120] ∧ nm = [103, 116] ∧ tellQ c nm vl = none ∧ bare = true) ∨
    (nm ≠ [112, 109, 105, 110] ∧ nm ≠ [112, 109, 97, 120] ∧ nm = [103, 116] ∧ tellQ c nm vl = none ∧ bare = false ∧ signedQ vl = none) ∨
    (nm ≠ [112, 109, 105, 110] ∧ nm ≠ [112, 109, 97, 120] ∧ nm = [103, 116] ∧ bare = false ∧ ∃ v, signedQ vl = some v ∧ tellQ c nm vl = some { c with g := v, hg := true }) ∨
    (nm ≠ [112, 109, 105, 110] ∧ nm ≠ [112, 109, 97, 120] ∧ nm ≠ [103, 116] ∧ nm = [108, 116] ∧ tellQ c nm vl = none ∧ bare = true) ∨
    (nm ≠ [112, 109, 105, 110] ∧ nm ≠ [112, 109, 97, 120] ∧ nm ≠ [103, 116] ∧ nm = [108, 116] ∧ tellQ c nm vl = none ∧ bare = false ∧ signedQ vl = none) ∨
    (nm ≠ [112, 109, 105, 110] ∧ nm ≠ [112, 109, 97, 120] ∧ nm ≠ [103, 116] ∧ nm = [108, 116] ∧ bare = false ∧ ∃ v, signedQ vl = some v ∧ tellQ c nm vl = some { c with l := v, hl := true }) ∨
    (nm ≠ [112, 109, 105, 110] ∧ nm ≠ [112, 109, 97, 120] ∧ nm ≠ [103, 116] ∧ nm ≠ [108, 116] ∧ nm = [115, 116] ∧ tellQ c nm vl = none ∧ bare = true) ∨
    (nm ≠ [112, 109, 105, 110] ∧ nm ≠ [112, 109, 97, 120] ∧ nm ≠ [103, 116] ∧ nm ≠ [108, 116] ∧ nm = [115, 116] ∧ tellQ c nm vl = none ∧ bare = false ∧ signedQ vl = none) ∨
    (nm ≠ [112, 109, 105, 110] ∧ nm ≠ [112, 109, 97, 120] ∧ nm ≠ [103, 116] ∧ nm ≠ [108, 116] ∧ nm = [115, 116] ∧ bare = false ∧ ∃ v, signedQ vl = some v ∧ tellQ c nm vl = some { c with s := v, hs := true }) := by
  by_cases h0 : nm = [112, 109, 105, 110]
  · have ht : tellQ c nm vl = (match numM 65535 vl with | some v => some { c with a := (v : Int), ha := true } | none => none) := by
      unfold tellQ
      rw [if_pos h0]
      cases numM 65535 vl <;> rfl
    rw [numM_ref] at ht
    rcases hs : signedQ vl with _ | v
    · rw [hs] at ht
      cases hbr : bare with
      | true => exact (.inr (.inl ⟨h0, ht, rfl⟩))
      | false => exact (.inr (.inr (.inl ⟨h0, ht, rfl, rfl⟩)))
    · rw [hs] at ht
      have hbr : bare = false := by
        cases hbr : bare with
        | true => rw [hb hbr, signed_nil] at hs; cases hs
        | false => rfl
      by_cases v0 : v < 0
      · dsimp only at ht
        rw [if_neg (by omega)] at ht
        exact (.inr (.inr (.inr (.inl ⟨h0, ht, hbr, v, rfl, v0⟩))))
      by_cases v1 : 65535 < v
      · dsimp only at ht
        rw [if_neg (by omega)] at ht
        exact (.inr (.inr (.inr (.inr (.inl ⟨h0, ht, hbr, v, rfl, v0, v1⟩)))))
      · dsimp only at ht
        rw [if_pos (by omega)] at ht
        dsimp only at ht
        rw [Int.toNat_of_nonneg (by omega)] at ht
        exact (.inr (.inr (.inr (.inr (.inr (.inl ⟨h0, hbr, v, rfl, v0, by omega, ht⟩))))))
  by_cases h1 : nm = [112, 109, 97, 120]
  · have ht : tellQ c nm vl = (match numM 65535 vl with | some v => some { c with b := (v : Int), hb := true } | none => none) := by
      unfold tellQ
      rw [if_neg h0, if_pos h1]
      cases numM 65535 vl <;> rfl
    rw [numM_ref] at ht
    rcases hs : signedQ vl with _ | v
    · rw [hs] at ht
      cases hbr : bare with
      | true => exact (.inr (.inr (.inr (.inr (.inr (.inr (.inl ⟨h0, h1, ht, rfl⟩)))))))
      | false => exact (.inr (.inr (.inr (.inr (.inr (.inr (.inr (.inl ⟨h0, h1, ht, rfl, rfl⟩))))))))
    · rw [hs] at ht
      have hbr : bare = false := by
        cases hbr : bare with
        | true => rw [hb hbr, signed_nil] at hs; cases hs
        | false => rfl
      by_cases v0 : v < 0
      · dsimp only at ht
        rw [if_neg (by omega)] at ht
        exact (.inr (.inr (.inr (.inr (.inr (.inr (.inr (.inr (.inl ⟨h0, h1, ht, hbr, v, rfl, v0⟩)))))))))
      by_cases v1 : 65535 < v
      · dsimp only at ht
        rw [if_neg (by omega)] at ht
        exact (.inr (.inr (.inr (.inr (.inr (.inr (.inr (.inr (.inr (.inl ⟨h0, h1, ht, hbr, v, rfl, v0, v1⟩))))))))))
      · dsimp only at ht
        rw [if_pos (by omega)] at ht
        dsimp only at ht
        rw [Int.toNat_of_nonneg (by omega)] at ht
        exact (.inr (.inr (.inr (.inr (.inr (.inr (.inr (.inr (.inr (.inr (.inl ⟨h0, h1, hbr, v, rfl, v0, by omega, ht⟩)))))))))))
  by_cases h2 : nm = [103, 116]
  · have ht : tellQ c nm vl = (match signedQ vl with | some v => some { c with g := v, hg := true } | none => none) := by
      unfold tellQ
      rw [if_neg h0, if_neg h1, if_pos h2]
      cases signedQ vl <;> rfl
    rcases hs : signedQ vl with _ | v
    · rw [hs] at ht
      cases hbr : bare with
      | true => exact (.inr (.inr (.inr (.inr (.inr (.inr (.inr (.inr (.inr (.inr (.inr (.inl ⟨h0, h1, h2, ht, rfl⟩))))))))))))
      | false => exact (.inr (.inr (.inr (.inr (.inr (.inr (.inr (.inr (.inr (.inr (.inr (.inr (.inl ⟨h0, h1, h2, ht, rfl, rfl⟩)))))))))))))
    · rw [hs] at ht
      have hbr : bare = false := by
        cases hbr : bare with
        | true => rw [hb hbr, signed_nil] at hs; cases hs
        | false => rfl
      exact (.inr (.inr (.inr (.inr (.inr (.inr (.inr (.inr (.inr (.inr (.inr (.inr (.inr (.inl ⟨h0, h1, h2, hbr, v, rfl, ht⟩))))))))))))))
  by_cases h3 : nm = [108, 116]
  · have ht : tellQ c nm vl = (match signedQ vl with | some v => some { c with l := v, hl := true } | none => none) := by
      unfold tellQ
      rw [if_neg h0, if_neg h1, if_neg h2, if_pos h3]
      cases signedQ vl <;> rfl
    rcases hs : signedQ vl with _ | v
    · rw [hs] at ht
      cases hbr : bare with
      | true => exact (.inr (.inr (.inr (.inr (.inr (.inr (.inr (.inr (.inr (.inr (.inr (.inr (.inr (.inr (.inl ⟨h0, h1, h2, h3, ht, rfl⟩)))))))))))))))
      | false => exact (.inr (.inr (.inr (.inr (.inr (.inr (.inr (.inr (.inr (.inr (.inr (.inr (.inr (.inr (.inr (.inl ⟨h0, h1, h2, h3, ht, rfl, rfl⟩))))))))))))))))
    · rw [hs] at ht
      have hbr : bare = false := by
        cases hbr : bare with
        | true => rw [hb hbr, signed_nil] at hs; cases hs
        | false => rfl
      exact (.inr (.inr (.inr (.inr (.inr (.inr (.inr (.inr (.inr (.inr (.inr (.inr (.inr (.inr (.inr (.inr (.inl ⟨h0, h1, h2, h3, hbr, v, rfl, ht⟩)))))))))))))))))
  by_cases h4 : nm = [115, 116]
  · have ht : tellQ c nm vl = (match signedQ vl with | some v => some { c with s := v, hs := true } | none => none) := by
      unfold tellQ
      rw [if_neg h0, if_neg h1, if_neg h2, if_neg h3, if_pos h4]
      cases signedQ vl <;> rfl
    rcases hs : signedQ vl with _ | v
    · rw [hs] at ht
      cases hbr : bare with
      | true => exact (.inr (.inr (.inr (.inr (.inr (.inr (.inr (.inr (.inr (.inr (.inr (.inr (.inr (.inr (.inr (.inr (.inr (.inl ⟨h0, h1, h2, h3, h4, ht, rfl⟩))))))))))))))))))
      | false => exact (.inr (.inr (.inr (.inr (.inr (.inr (.inr (.inr (.inr (.inr (.inr (.inr (.inr (.inr (.inr (.inr (.inr (.inr (.inl ⟨h0, h1, h2, h3, h4, ht, rfl, rfl⟩)))))))))))))))))))
    · rw [hs] at ht
      have hbr : bare = false := by
        cases hbr : bare with
        | true => rw [hb hbr, signed_nil] at hs; cases hs
        | false => rfl
      exact (.inr (.inr (.inr (.inr (.inr (.inr (.inr (.inr (.inr (.inr (.inr (.inr (.inr (.inr (.inr (.inr (.inr (.inr (.inr ⟨h0, h1, h2, h3, h4, hbr, v, rfl, ht⟩)))))))))))))))))))
  · have ht : tellQ c nm vl = some c := by
      unfold tellQ
      rw [if_neg h0, if_neg h1, if_neg h2, if_neg h3, if_neg h4]
    exact .inl ⟨h0, h1, h2, h3, h4, ht⟩
theorem nameEq {nm : ByteArray} {l : List UInt8} (h : nm.data.toList = l) : (nm.toList == l) = true ∧ (nm.toList != l) = false := by
  have h1 : nm.toList = l := by rw [ByteArray.toList_eq]; exact h
  exact ⟨beq_iff_eq.2 h1, by rw [h1]; exact bne_self_eq_false l⟩
theorem nameNe {nm : ByteArray} {l : List UInt8} (h : nm.data.toList ≠ l) : (nm.toList == l) = false ∧ (nm.toList != l) = true := by
  have h1 : nm.toList ≠ l := by rw [ByteArray.toList_eq]; exact h
  exact ⟨beq_eq_false_iff_ne.2 h1, bne_iff_ne.2 h1⟩
set_option maxHeartbeats 16000000 in
theorem rcond_f (A : Option Addr) (n c : Nat) (vs : List Sv) (ps : List (Int × List UInt8)) (w : World) (B : Nat) (hos : Os w B A n vs ps) (hB : B ≤ w.heap.size) (hn : n ≤ 1048576) (hmx : ∀ x ∈ ps, x.2.length ≤ 1000000) :
    Calls Tryd.prog 24 #[.slice A n c] w fun e w' => e = condE (condQ ((allO 15 ps).map pairQ)) ∧ Below w.heap.size w w' := by
  have hQ := fun W (h : Below w.heap.size w W) => rquery_f A n c vs ps W B (hos.below' h hB) (Nat.le_trans hB h.size) hn hmx
  have hpl := hos.plen
  have hal := allO_len 15 ps
  have ham := allO_max (num := 15) hmx
  have hvl : ∀ p ∈ (allO 15 ps).map pairQ, p.vl.size ≤ 1000000 ∧ (p.bare = true → p.vl.data.toList = []) := by
    intro p hp
    obtain ⟨l, hl, rfl⟩ := List.mem_map.1 hp
    refine ⟨?_, pairQ_bare⟩
    have h1 := ham l hl
    show (⟨(cutB l 61).toArray⟩ : ByteArray).size ≤ 1000000
    have h2 : (⟨(cutB l 61).toArray⟩ : ByteArray).size = (cutB l 61).length := by show (cutB l 61).toArray.size = _; simp
    rw [h2]
    unfold cutB
    split
    · exact Nat.zero_le _
    · rw [List.length_drop]; omega
  obtain ⟨qs, hqs⟩ : ∃ qs, (allO 15 ps).map pairQ = qs := ⟨_, rfl⟩
  have hql : qs.length ≤ 1048576 := by rw [← hqs, List.length_map]; omega
  rw [hqs] at hQ hvl ⊢
  obtain ⟨R, hR⟩ : ∃ R, condQ qs = R := ⟨_, rfl⟩
  rw [hR]
  unfold condQ at hR
  obtain ⟨G, hG⟩ : ∃ G, condF cq0 qs = G := ⟨_, rfl⟩
  rw [hG] at hR
  have hG0 : condF cq0 (qs.drop 0) = G := hG
  have hN0 := there_new w cq0.vals.toArray 47 (n := 10) rfl
  have HA := Lib.hid (And.intro hN0 (And.intro hQ (And.intro hvl (And.intro hql (And.intro hR hG0)))))
  clear hN0 hQ hvl hql hR hG hG0 hqs hpl hal ham hos hmx
  go_enter Tryd.func24, Tryd.ntmps24
  go_wp2_with fail
  refine (HA.out.2.1 _ (alloc_below w _)).mono ?_
  rintro e w1 ⟨A1, n1, c1, rfl, hnc1, hn1, hown1, hb1⟩
  have hat := own_at hown1
  have hz1 : w.heap.size + 1 ≤ w1.heap.size := by have := hb1.size; rw [alloc_size] at this; exact this
  have ht1 : w1.there w.heap.size 0 10 := there_below HA.out.1 hb1 (by rw [alloc_size]; omega)
  have hb1' := (alloc_below w (.cells cq0.vals.toArray 47)).trans (hb1.mono (by rw [alloc_size]; omega))
  have hnI : (n1 : Int) ≤ 1048576 := by have := hn1.out; have := HA.out.2.2.2.1; omega
  have hcb : CqAt (w1.alloc (.cells cq0.vals.toArray 47)) w1.heap.size cq0 := ⟨range_newV w1 cq0.vals.toArray 47 rfl, there_new w1 _ _ rfl, by rw [alloc_size]; omega⟩
  have H1 := Lib.hid (And.intro hat (And.intro ht1 (And.intro hb1' (And.intro hn1.out (And.intro hcb hz1)))))
  clear hat ht1 hb1' hn1 hown1 hb1 hnc1 hcb hz1
  try dsimp only
  go_wp2
  go_loopw [7, 8] (fun v7 v8 wr => ∃ (k : Nat) (q : Bool), k ≤ n1 ∧ v8 = .int .i64 (k : Int) ∧ v7 = .bool q ∧ Aside (∃ c, q = (!cqz c) ∧ condF c (qs.drop k) = G ∧ CqAt wr w1.heap.size c ∧ Below w1.heap.size w1 wr)) (fun _ v8 _ => n1 - (intOf v8).toNat)
  case atStart => exact ⟨0, false, Nat.zero_le _, rfl, rfl, (show Aside _ from ⟨cq0, by decide, HA.out.2.2.2.2.2, H1.out.2.2.2.2.1, alloc_below w1 _⟩)⟩
  case round =>
    obtain ⟨k, q, hk, rfl, rfl, hrel⟩ := hrel
    obtain ⟨c, hqc, hc, hca, hbw⟩ := hrel.out
    clear hrel
    by_cases hlt : k < n1
    · have hat := H1.out.1.below hbw
      obtain ⟨b, off, rfl, hbb, _⟩ := hat.place (by omega)
      obtain ⟨p, hs⟩ := hat.get hlt
      have hr := hat.range hs
      have hdr : qs.drop k = p :: qs.drop (k + 1) := by
        obtain ⟨hkl, e⟩ := List.getElem?_eq_some_iff.1 hs
        rw [List.drop_eq_getElem_cons hkl, e]
      rw [hdr] at hc
      have hsz := HA.out.2.2.1 p (List.mem_of_getElem? hs)
      obtain ⟨nm, vl, bare⟩ := p
      replace hr : wr.rangeAt b (off + k * 3) [.string nm, .string vl, .bool bare] := hr
      have r0 := hr 0 _ rfl
      have r1 := hr 1 _ rfl
      have r2 := hr 2 _ rfl
      rw [Nat.add_zero] at r0
      dsimp only at hsz
      obtain ⟨hsz, hbare⟩ := hsz
      have hcall := rsigned_f vl hsz wr
      replace hc : (match tellQ c nm.data.toList vl.data.toList with | none => none | some c' => condF c' (qs.drop (k + 1))) = G := hc
      have hltI : (k : Int) < n1 := by omega
      have htl := there_below H1.out.2.1 hbw H1.out.2.2.2.2.2
      have hbl := H1.out.2.2.1.trans (hbw.mono H1.out.2.2.1.size)
      have HB := Lib.hid (And.intro hqc (And.intro hca (And.intro hbw (And.intro htl (And.intro hbl hca.t)))))
      have hca0 := hca
      clear hqc hca hbw htl hbl hat hdr hs hr
      rcases tell_cases c nm.data.toList vl.data.toList bare hbare with ⟨g0, g1, g2, g3, g4, ht⟩ | ⟨g0, ht, rfl⟩ | ⟨g0, ht, rfl, hs⟩ | ⟨g0, ht, rfl, v, hs, v0⟩ | ⟨g0, ht, rfl, v, hs, v0, v1⟩ | ⟨g0, rfl, v, hs, v0, v1, ht⟩ | ⟨g0, g1, ht, rfl⟩ | ⟨g0, g1, ht, rfl, hs⟩ | ⟨g0, g1, ht, rfl, v, hs, v0⟩ | ⟨g0, g1, ht, rfl, v, hs, v0, v1⟩ | ⟨g0, g1, rfl, v, hs, v0, v1, ht⟩ | ⟨g0, g1, g2, ht, rfl⟩ | ⟨g0, g1, g2, ht, rfl, hs⟩ | ⟨g0, g1, g2, rfl, v, hs, ht⟩ | ⟨g0, g1, g2, g3, ht, rfl⟩ | ⟨g0, g1, g2, g3, ht, rfl, hs⟩ | ⟨g0, g1, g2, g3, rfl, v, hs, ht⟩ | ⟨g0, g1, g2, g3, g4, ht, rfl⟩ | ⟨g0, g1, g2, g3, g4, ht, rfl, hs⟩ | ⟨g0, g1, g2, g3, g4, rfl, v, hs, ht⟩
      · -- none
        obtain ⟨e0, m0⟩ := nameNe g0
        obtain ⟨e1, m1⟩ := nameNe g1
        obtain ⟨e2, m2⟩ := nameNe g2
        obtain ⟨e3, m3⟩ := nameNe g3
        obtain ⟨e4, m4⟩ := nameNe g4
        rw [ht] at hc
        replace hc : condF c (qs.drop (k + 1)) = G := hc
        have HC := Lib.hid hc
        clear hc ht g0 g1 g2 g3 g4 hcall hbare hca0
        go_wp2
        go_roundw
        case rel => exact ⟨k + 1, q, by omega, by go_num, rfl, (show Aside _ from ⟨c, HB.out.1, HC.out, HB.out.2.1, HB.out.2.2.1⟩)⟩
        case measure => simp [intOf]; omega
      · -- pminB
        obtain ⟨e0, m0⟩ := nameEq g0
        rw [ht] at hc
        replace hc : none = G := hc
        have hR := HA.out.2.2.2.2.1
        rw [← hc] at hR
        replace hR : (cq0, false, 20) = R := hR
        subst hR
        rw [hbare rfl, signed_nil] at hcall
        have HC := Lib.hid hcall
        clear hc ht g0 hcall hbare hca0
        go_wp2_with fail
        refine HC.out.mono ?_
        rintro e w3 ⟨rfl, hw3⟩
        obtain rfl := hw3.symm
        unfold numI
        try dsimp only
        go_wp2_with (refine wpList_store_mid rfl 47 (.tmp 2) (.tmp 76) rfl w.heap.size 0 cq0.vals.toArray rfl rfl HB.out.2.2.2.1 size_cond (all_oneCell_toArray (one10 cq0)) ?_)
        refine bodyPost_ret (results_cell_tmp2 rfl _ _ _ w.heap.size cq0.vals _ rfl (range_stored HB.out.2.2.2.1) Tryd.underlying47 rfl size_cond) rfl ?_
        exact ⟨rfl, below_setCells HB.out.2.2.2.2.1 (Nat.le_refl _) _ 0⟩
      · -- pminN
        obtain ⟨e0, m0⟩ := nameEq g0
        rw [ht] at hc
        replace hc : none = G := hc
        have hR := HA.out.2.2.2.2.1
        rw [← hc] at hR
        replace hR : (cq0, false, 20) = R := hR
        subst hR
        rw [hs] at hcall
        have HC := Lib.hid hcall
        clear hc ht g0 hcall hbare hca0 hs
        go_wp2_with fail
        refine HC.out.mono ?_
        rintro e w3 ⟨rfl, hw3⟩
        obtain rfl := hw3.symm
        unfold numI
        try dsimp only
        go_wp2_with (refine wpList_store_mid rfl 47 (.tmp 2) (.tmp 76) rfl w.heap.size 0 cq0.vals.toArray rfl rfl HB.out.2.2.2.1 size_cond (all_oneCell_toArray (one10 cq0)) ?_)
        refine bodyPost_ret (results_cell_tmp2 rfl _ _ _ w.heap.size cq0.vals _ rfl (range_stored HB.out.2.2.2.1) Tryd.underlying47 rfl size_cond) rfl ?_
        exact ⟨rfl, below_setCells HB.out.2.2.2.2.1 (Nat.le_refl _) _ 0⟩
      · -- pminL
        obtain ⟨e0, m0⟩ := nameEq g0
        rw [ht] at hc
        replace hc : none = G := hc
        have hR := HA.out.2.2.2.2.1
        rw [← hc] at hR
        replace hR : (cq0, false, 20) = R := hR
        subst hR
        rw [hs] at hcall
        have HC := Lib.hid hcall
        clear hc ht g0 hcall hbare hca0 hs
        go_wp2_with fail
        refine HC.out.mono ?_
        rintro e w3 ⟨rfl, hw3⟩
        obtain rfl := hw3.symm
        unfold numI
        try dsimp only
        go_wp2_with (refine wpList_store_mid rfl 47 (.tmp 2) (.tmp 76) rfl w.heap.size 0 cq0.vals.toArray rfl rfl HB.out.2.2.2.1 size_cond (all_oneCell_toArray (one10 cq0)) ?_)
        refine bodyPost_ret (results_cell_tmp2 rfl _ _ _ w.heap.size cq0.vals _ rfl (range_stored HB.out.2.2.2.1) Tryd.underlying47 rfl size_cond) rfl ?_
        exact ⟨rfl, below_setCells HB.out.2.2.2.2.1 (Nat.le_refl _) _ 0⟩
      · -- pminH
        obtain ⟨e0, m0⟩ := nameEq g0
        rw [ht] at hc
        replace hc : none = G := hc
        have hR := HA.out.2.2.2.2.1
        rw [← hc] at hR
        replace hR : (cq0, false, 20) = R := hR
        subst hR
        rw [hs] at hcall
        have HC := Lib.hid hcall
        clear hc ht g0 hcall hbare hca0 hs
        go_wp2_with fail
        refine HC.out.mono ?_
        rintro e w3 ⟨rfl, hw3⟩
        obtain rfl := hw3.symm
        unfold numI
        try dsimp only
        go_wp2_with (refine wpList_store_mid rfl 47 (.tmp 2) (.tmp 76) rfl w.heap.size 0 cq0.vals.toArray rfl rfl HB.out.2.2.2.1 size_cond (all_oneCell_toArray (one10 cq0)) ?_)
        refine bodyPost_ret (results_cell_tmp2 rfl _ _ _ w.heap.size cq0.vals _ rfl (range_stored HB.out.2.2.2.1) Tryd.underlying47 rfl size_cond) rfl ?_
        exact ⟨rfl, below_setCells HB.out.2.2.2.2.1 (Nat.le_refl _) _ 0⟩
      · -- pminS
        obtain ⟨e0, m0⟩ := nameEq g0
        rw [ht] at hc
        replace hc : condF { c with a := v, ha := true } (qs.drop (k + 1)) = G := hc
        rw [hs] at hcall
        have hcz : true = (!cqz { c with a := v, ha := true }) := by unfold cqz; simp
        have HC := Lib.hid (And.intro hcall (And.intro hc hcz))
        obtain ⟨x0, x1, x2, x3, x4, x5, x6, x7, x8, x9⟩ := ten hca0.r
        have f1 := (hca0.t 0 (by omega)).2
        have f2 := (hca0.t 2 (by omega)).2
        rw [Nat.zero_add] at f1 f2
        clear hc ht g0 hcall hbare hca0 hcz hs
        go_wp2_with fail
        refine HC.out.1.mono ?_
        rintro e w3 ⟨rfl, hw3⟩
        obtain rfl := hw3.symm
        unfold numI
        try dsimp only
        go_wp2
        go_roundw
        case rel => exact ⟨k + 1, true, by omega, by go_num, rfl, (show Aside _ from ⟨_, HC.out.2.2, HC.out.2.1, HB.out.2.1.set2 0 2 (by omega) (by omega) _ _ _ rfl, (HB.out.2.2.1.setCell (p := ⟨w1.heap.size, 0, none⟩) (Nat.le_refl _) _).setCell (p := ⟨w1.heap.size, 2, none⟩) (Nat.le_refl _) _⟩)⟩
        case measure => simp [intOf]; omega
      · -- pmaxB
        obtain ⟨e0, m0⟩ := nameNe g0
        obtain ⟨e1, m1⟩ := nameEq g1
        rw [ht] at hc
        replace hc : none = G := hc
        have hR := HA.out.2.2.2.2.1
        rw [← hc] at hR
        replace hR : (cq0, false, 20) = R := hR
        subst hR
        rw [hbare rfl, signed_nil] at hcall
        have HC := Lib.hid hcall
        clear hc ht g0 g1 hcall hbare hca0
        go_wp2_with fail
        refine HC.out.mono ?_
        rintro e w3 ⟨rfl, hw3⟩
        obtain rfl := hw3.symm
        unfold numI
        try dsimp only
        go_wp2_with (refine wpList_store_mid rfl 47 (.tmp 2) (.tmp 76) rfl w.heap.size 0 cq0.vals.toArray rfl rfl HB.out.2.2.2.1 size_cond (all_oneCell_toArray (one10 cq0)) ?_)
        refine bodyPost_ret (results_cell_tmp2 rfl _ _ _ w.heap.size cq0.vals _ rfl (range_stored HB.out.2.2.2.1) Tryd.underlying47 rfl size_cond) rfl ?_
        exact ⟨rfl, below_setCells HB.out.2.2.2.2.1 (Nat.le_refl _) _ 0⟩
      · -- pmaxN
        obtain ⟨e0, m0⟩ := nameNe g0
        obtain ⟨e1, m1⟩ := nameEq g1
        rw [ht] at hc
        replace hc : none = G := hc
        have hR := HA.out.2.2.2.2.1
        rw [← hc] at hR
        replace hR : (cq0, false, 20) = R := hR
        subst hR
        rw [hs] at hcall
        have HC := Lib.hid hcall
        clear hc ht g0 g1 hcall hbare hca0 hs
        go_wp2_with fail
        refine HC.out.mono ?_
        rintro e w3 ⟨rfl, hw3⟩
        obtain rfl := hw3.symm
        unfold numI
        try dsimp only
        go_wp2_with (refine wpList_store_mid rfl 47 (.tmp 2) (.tmp 76) rfl w.heap.size 0 cq0.vals.toArray rfl rfl HB.out.2.2.2.1 size_cond (all_oneCell_toArray (one10 cq0)) ?_)
        refine bodyPost_ret (results_cell_tmp2 rfl _ _ _ w.heap.size cq0.vals _ rfl (range_stored HB.out.2.2.2.1) Tryd.underlying47 rfl size_cond) rfl ?_
        exact ⟨rfl, below_setCells HB.out.2.2.2.2.1 (Nat.le_refl _) _ 0⟩
      · -- pmaxL
        obtain ⟨e0, m0⟩ := nameNe g0
        obtain ⟨e1, m1⟩ := nameEq g1
        rw [ht] at hc
        replace hc : none = G := hc
        have hR := HA.out.2.2.2.2.1
        rw [← hc] at hR
        replace hR : (cq0, false, 20) = R := hR
        subst hR
        rw [hs] at hcall
        have HC := Lib.hid hcall
        clear hc ht g0 g1 hcall hbare hca0 hs
        go_wp2_with fail
        refine HC.out.mono ?_
        rintro e w3 ⟨rfl, hw3⟩
        obtain rfl := hw3.symm
        unfold numI
        try dsimp only
        go_wp2_with (refine wpList_store_mid rfl 47 (.tmp 2) (.tmp 76) rfl w.heap.size 0 cq0.vals.toArray rfl rfl HB.out.2.2.2.1 size_cond (all_oneCell_toArray (one10 cq0)) ?_)
        refine bodyPost_ret (results_cell_tmp2 rfl _ _ _ w.heap.size cq0.vals _ rfl (range_stored HB.out.2.2.2.1) Tryd.underlying47 rfl size_cond) rfl ?_
        exact ⟨rfl, below_setCells HB.out.2.2.2.2.1 (Nat.le_refl _) _ 0⟩
      · -- pmaxH
        obtain ⟨e0, m0⟩ := nameNe g0
        obtain ⟨e1, m1⟩ := nameEq g1
        rw [ht] at hc
        replace hc : none = G := hc
        have hR := HA.out.2.2.2.2.1
        rw [← hc] at hR
        replace hR : (cq0, false, 20) = R := hR
        subst hR
        rw [hs] at hcall
        have HC := Lib.hid hcall
        clear hc ht g0 g1 hcall hbare hca0 hs
        go_wp2_with fail
        refine HC.out.mono ?_
        rintro e w3 ⟨rfl, hw3⟩
        obtain rfl := hw3.symm
        unfold numI
        try dsimp only
        go_wp2_with (refine wpList_store_mid rfl 47 (.tmp 2) (.tmp 76) rfl w.heap.size 0 cq0.vals.toArray rfl rfl HB.out.2.2.2.1 size_cond (all_oneCell_toArray (one10 cq0)) ?_)
        refine bodyPost_ret (results_cell_tmp2 rfl _ _ _ w.heap.size cq0.vals _ rfl (range_stored HB.out.2.2.2.1) Tryd.underlying47 rfl size_cond) rfl ?_
        exact ⟨rfl, below_setCells HB.out.2.2.2.2.1 (Nat.le_refl _) _ 0⟩
      · -- pmaxS
        obtain ⟨e0, m0⟩ := nameNe g0
        obtain ⟨e1, m1⟩ := nameEq g1
        rw [ht] at hc
        replace hc : condF { c with b := v, hb := true } (qs.drop (k + 1)) = G := hc
        rw [hs] at hcall
        have hcz : true = (!cqz { c with b := v, hb := true }) := by unfold cqz; simp
        have HC := Lib.hid (And.intro hcall (And.intro hc hcz))
        obtain ⟨x0, x1, x2, x3, x4, x5, x6, x7, x8, x9⟩ := ten hca0.r
        have f1 := (hca0.t 1 (by omega)).2
        have f2 := (hca0.t 3 (by omega)).2
        rw [Nat.zero_add] at f1 f2
        clear hc ht g0 g1 hcall hbare hca0 hcz hs
        go_wp2_with fail
        refine HC.out.1.mono ?_
        rintro e w3 ⟨rfl, hw3⟩
        obtain rfl := hw3.symm
        unfold numI
        try dsimp only
        go_wp2
        go_roundw
        case rel => exact ⟨k + 1, true, by omega, by go_num, rfl, (show Aside _ from ⟨_, HC.out.2.2, HC.out.2.1, HB.out.2.1.set2 1 3 (by omega) (by omega) _ _ _ rfl, (HB.out.2.2.1.setCell (p := ⟨w1.heap.size, 1, none⟩) (Nat.le_refl _) _).setCell (p := ⟨w1.heap.size, 3, none⟩) (Nat.le_refl _) _⟩)⟩
        case measure => simp [intOf]; omega
      · -- gtB
        obtain ⟨e0, m0⟩ := nameNe g0
        obtain ⟨e1, m1⟩ := nameNe g1
        obtain ⟨e2, m2⟩ := nameEq g2
        rw [ht] at hc
        replace hc : none = G := hc
        have hR := HA.out.2.2.2.2.1
        rw [← hc] at hR
        replace hR : (cq0, false, 20) = R := hR
        subst hR
        rw [hbare rfl, signed_nil] at hcall
        have HC := Lib.hid hcall
        clear hc ht g0 g1 g2 hcall hbare hca0
        go_wp2_with fail
        refine HC.out.mono ?_
        rintro e w3 ⟨rfl, hw3⟩
        obtain rfl := hw3.symm
        unfold numI
        try dsimp only
        go_wp2_with (refine wpList_store_mid rfl 47 (.tmp 2) (.tmp 76) rfl w.heap.size 0 cq0.vals.toArray rfl rfl HB.out.2.2.2.1 size_cond (all_oneCell_toArray (one10 cq0)) ?_)
        refine bodyPost_ret (results_cell_tmp2 rfl _ _ _ w.heap.size cq0.vals _ rfl (range_stored HB.out.2.2.2.1) Tryd.underlying47 rfl size_cond) rfl ?_
        exact ⟨rfl, below_setCells HB.out.2.2.2.2.1 (Nat.le_refl _) _ 0⟩
      · -- gtN
        obtain ⟨e0, m0⟩ := nameNe g0
        obtain ⟨e1, m1⟩ := nameNe g1
        obtain ⟨e2, m2⟩ := nameEq g2
        rw [ht] at hc
        replace hc : none = G := hc
        have hR := HA.out.2.2.2.2.1
        rw [← hc] at hR
        replace hR : (cq0, false, 20) = R := hR
        subst hR
        rw [hs] at hcall
        have HC := Lib.hid hcall
        clear hc ht g0 g1 g2 hcall hbare hca0 hs
        go_wp2_with fail
        refine HC.out.mono ?_
        rintro e w3 ⟨rfl, hw3⟩
        obtain rfl := hw3.symm
        unfold numI
        try dsimp only
        go_wp2_with (refine wpList_store_mid rfl 47 (.tmp 2) (.tmp 76) rfl w.heap.size 0 cq0.vals.toArray rfl rfl HB.out.2.2.2.1 size_cond (all_oneCell_toArray (one10 cq0)) ?_)
        refine bodyPost_ret (results_cell_tmp2 rfl _ _ _ w.heap.size cq0.vals _ rfl (range_stored HB.out.2.2.2.1) Tryd.underlying47 rfl size_cond) rfl ?_
        exact ⟨rfl, below_setCells HB.out.2.2.2.2.1 (Nat.le_refl _) _ 0⟩
      · -- gtS
        obtain ⟨e0, m0⟩ := nameNe g0
        obtain ⟨e1, m1⟩ := nameNe g1
        obtain ⟨e2, m2⟩ := nameEq g2
        rw [ht] at hc
        replace hc : condF { c with g := v, hg := true } (qs.drop (k + 1)) = G := hc
        rw [hs] at hcall
        have hcz : true = (!cqz { c with g := v, hg := true }) := by unfold cqz; simp
        have HC := Lib.hid (And.intro hcall (And.intro hc hcz))
        obtain ⟨x0, x1, x2, x3, x4, x5, x6, x7, x8, x9⟩ := ten hca0.r
        have f1 := (hca0.t 4 (by omega)).2
        have f2 := (hca0.t 7 (by omega)).2
        rw [Nat.zero_add] at f1 f2
        clear hc ht g0 g1 g2 hcall hbare hca0 hcz hs
        go_wp2_with fail
        refine HC.out.1.mono ?_
        rintro e w3 ⟨rfl, hw3⟩
        obtain rfl := hw3.symm
        unfold numI
        try dsimp only
        go_wp2
        go_roundw
        case rel => exact ⟨k + 1, true, by omega, by go_num, rfl, (show Aside _ from ⟨_, HC.out.2.2, HC.out.2.1, HB.out.2.1.set2 4 7 (by omega) (by omega) _ _ _ rfl, (HB.out.2.2.1.setCell (p := ⟨w1.heap.size, 4, none⟩) (Nat.le_refl _) _).setCell (p := ⟨w1.heap.size, 7, none⟩) (Nat.le_refl _) _⟩)⟩
        case measure => simp [intOf]; omega
      · -- ltB
        obtain ⟨e0, m0⟩ := nameNe g0
        obtain ⟨e1, m1⟩ := nameNe g1
        obtain ⟨e2, m2⟩ := nameNe g2
        obtain ⟨e3, m3⟩ := nameEq g3
        rw [ht] at hc
        replace hc : none = G := hc
        have hR := HA.out.2.2.2.2.1
        rw [← hc] at hR
        replace hR : (cq0, false, 20) = R := hR
        subst hR
        rw [hbare rfl, signed_nil] at hcall
        have HC := Lib.hid hcall
        clear hc ht g0 g1 g2 g3 hcall hbare hca0
        go_wp2_with fail
        refine HC.out.mono ?_
        rintro e w3 ⟨rfl, hw3⟩
        obtain rfl := hw3.symm
        unfold numI
        try dsimp only
        go_wp2_with (refine wpList_store_mid rfl 47 (.tmp 2) (.tmp 76) rfl w.heap.size 0 cq0.vals.toArray rfl rfl HB.out.2.2.2.1 size_cond (all_oneCell_toArray (one10 cq0)) ?_)
        refine bodyPost_ret (results_cell_tmp2 rfl _ _ _ w.heap.size cq0.vals _ rfl (range_stored HB.out.2.2.2.1) Tryd.underlying47 rfl size_cond) rfl ?_
        exact ⟨rfl, below_setCells HB.out.2.2.2.2.1 (Nat.le_refl _) _ 0⟩
      · -- ltN
        obtain ⟨e0, m0⟩ := nameNe g0
        obtain ⟨e1, m1⟩ := nameNe g1
        obtain ⟨e2, m2⟩ := nameNe g2
        obtain ⟨e3, m3⟩ := nameEq g3
        rw [ht] at hc
        replace hc : none = G := hc
        have hR := HA.out.2.2.2.2.1
        rw [← hc] at hR
        replace hR : (cq0, false, 20) = R := hR
        subst hR
        rw [hs] at hcall
        have HC := Lib.hid hcall
        clear hc ht g0 g1 g2 g3 hcall hbare hca0 hs
        go_wp2_with fail
        refine HC.out.mono ?_
        rintro e w3 ⟨rfl, hw3⟩
        obtain rfl := hw3.symm
        unfold numI
        try dsimp only
        go_wp2_with (refine wpList_store_mid rfl 47 (.tmp 2) (.tmp 76) rfl w.heap.size 0 cq0.vals.toArray rfl rfl HB.out.2.2.2.1 size_cond (all_oneCell_toArray (one10 cq0)) ?_)
        refine bodyPost_ret (results_cell_tmp2 rfl _ _ _ w.heap.size cq0.vals _ rfl (range_stored HB.out.2.2.2.1) Tryd.underlying47 rfl size_cond) rfl ?_
        exact ⟨rfl, below_setCells HB.out.2.2.2.2.1 (Nat.le_refl _) _ 0⟩
      · -- ltS
        obtain ⟨e0, m0⟩ := nameNe g0
        obtain ⟨e1, m1⟩ := nameNe g1
        obtain ⟨e2, m2⟩ := nameNe g2
        obtain ⟨e3, m3⟩ := nameEq g3
        rw [ht] at hc
        replace hc : condF { c with l := v, hl := true } (qs.drop (k + 1)) = G := hc
        rw [hs] at hcall
        have hcz : true = (!cqz { c with l := v, hl := true }) := by unfold cqz; simp
        have HC := Lib.hid (And.intro hcall (And.intro hc hcz))
        obtain ⟨x0, x1, x2, x3, x4, x5, x6, x7, x8, x9⟩ := ten hca0.r
        have f1 := (hca0.t 5 (by omega)).2
        have f2 := (hca0.t 8 (by omega)).2
        rw [Nat.zero_add] at f1 f2
        clear hc ht g0 g1 g2 g3 hcall hbare hca0 hcz hs
        go_wp2_with fail
        refine HC.out.1.mono ?_
        rintro e w3 ⟨rfl, hw3⟩
        obtain rfl := hw3.symm
        unfold numI
        try dsimp only
        go_wp2
        go_roundw
        case rel => exact ⟨k + 1, true, by omega, by go_num, rfl, (show Aside _ from ⟨_, HC.out.2.2, HC.out.2.1, HB.out.2.1.set2 5 8 (by omega) (by omega) _ _ _ rfl, (HB.out.2.2.1.setCell (p := ⟨w1.heap.size, 5, none⟩) (Nat.le_refl _) _).setCell (p := ⟨w1.heap.size, 8, none⟩) (Nat.le_refl _) _⟩)⟩
        case measure => simp [intOf]; omega
      · -- stB
        obtain ⟨e0, m0⟩ := nameNe g0
        obtain ⟨e1, m1⟩ := nameNe g1
        obtain ⟨e2, m2⟩ := nameNe g2
        obtain ⟨e3, m3⟩ := nameNe g3
        obtain ⟨e4, m4⟩ := nameEq g4
        rw [ht] at hc
        replace hc : none = G := hc
        have hR := HA.out.2.2.2.2.1
        rw [← hc] at hR
        replace hR : (cq0, false, 20) = R := hR
        subst hR
        rw [hbare rfl, signed_nil] at hcall
        have HC := Lib.hid hcall
        clear hc ht g0 g1 g2 g3 g4 hcall hbare hca0
        go_wp2_with fail
        refine HC.out.mono ?_
        rintro e w3 ⟨rfl, hw3⟩
        obtain rfl := hw3.symm
        unfold numI
        try dsimp only
        go_wp2_with (refine wpList_store_mid rfl 47 (.tmp 2) (.tmp 76) rfl w.heap.size 0 cq0.vals.toArray rfl rfl HB.out.2.2.2.1 size_cond (all_oneCell_toArray (one10 cq0)) ?_)
        refine bodyPost_ret (results_cell_tmp2 rfl _ _ _ w.heap.size cq0.vals _ rfl (range_stored HB.out.2.2.2.1) Tryd.underlying47 rfl size_cond) rfl ?_
        exact ⟨rfl, below_setCells HB.out.2.2.2.2.1 (Nat.le_refl _) _ 0⟩
      · -- stN
        obtain ⟨e0, m0⟩ := nameNe g0
        obtain ⟨e1, m1⟩ := nameNe g1
        obtain ⟨e2, m2⟩ := nameNe g2
        obtain ⟨e3, m3⟩ := nameNe g3
        obtain ⟨e4, m4⟩ := nameEq g4
        rw [ht] at hc
        replace hc : none = G := hc
        have hR := HA.out.2.2.2.2.1
        rw [← hc] at hR
        replace hR : (cq0, false, 20) = R := hR
        subst hR
        rw [hs] at hcall
        have HC := Lib.hid hcall
        clear hc ht g0 g1 g2 g3 g4 hcall hbare hca0 hs
        go_wp2_with fail
        refine HC.out.mono ?_
        rintro e w3 ⟨rfl, hw3⟩
        obtain rfl := hw3.symm
        unfold numI
        try dsimp only
        go_wp2_with (refine wpList_store_mid rfl 47 (.tmp 2) (.tmp 76) rfl w.heap.size 0 cq0.vals.toArray rfl rfl HB.out.2.2.2.1 size_cond (all_oneCell_toArray (one10 cq0)) ?_)
        refine bodyPost_ret (results_cell_tmp2 rfl _ _ _ w.heap.size cq0.vals _ rfl (range_stored HB.out.2.2.2.1) Tryd.underlying47 rfl size_cond) rfl ?_
        exact ⟨rfl, below_setCells HB.out.2.2.2.2.1 (Nat.le_refl _) _ 0⟩
      · -- stS
        obtain ⟨e0, m0⟩ := nameNe g0
        obtain ⟨e1, m1⟩ := nameNe g1
        obtain ⟨e2, m2⟩ := nameNe g2
        obtain ⟨e3, m3⟩ := nameNe g3
        obtain ⟨e4, m4⟩ := nameEq g4
        rw [ht] at hc
        replace hc : condF { c with s := v, hs := true } (qs.drop (k + 1)) = G := hc
        rw [hs] at hcall
        have hcz : true = (!cqz { c with s := v, hs := true }) := by unfold cqz; simp
        have HC := Lib.hid (And.intro hcall (And.intro hc hcz))
        obtain ⟨x0, x1, x2, x3, x4, x5, x6, x7, x8, x9⟩ := ten hca0.r
        have f1 := (hca0.t 6 (by omega)).2
        have f2 := (hca0.t 9 (by omega)).2
        rw [Nat.zero_add] at f1 f2
        clear hc ht g0 g1 g2 g3 g4 hcall hbare hca0 hcz hs
        go_wp2_with fail
        refine HC.out.1.mono ?_
        rintro e w3 ⟨rfl, hw3⟩
        obtain rfl := hw3.symm
        unfold numI
        try dsimp only
        go_wp2
        go_roundw
        case rel => exact ⟨k + 1, true, by omega, by go_num, rfl, (show Aside _ from ⟨_, HC.out.2.2, HC.out.2.1, HB.out.2.1.set2 6 9 (by omega) (by omega) _ _ _ rfl, (HB.out.2.2.1.setCell (p := ⟨w1.heap.size, 6, none⟩) (Nat.le_refl _) _).setCell (p := ⟨w1.heap.size, 9, none⟩) (Nat.le_refl _) _⟩)⟩
        case measure => simp [intOf]; omega
    · obtain rfl : k = n1 := by omega
      have hltI : ¬ (k : Int) < k := by omega
      have hat := H1.out.1.below hbw
      rw [List.drop_of_length_le (by have := hat.len; omega)] at hc
      replace hc : some c = G := hc
      have hR := HA.out.2.2.2.2.1
      rw [← hc] at hR
      replace hR : (if ((c.ha = true ∧ c.hb = true) ∧ c.b < c.a) ∨ (c.hs = true ∧ c.s ≤ 0) then (cq0, false, 1) else (c, !cqz c, 0)) = R := hR
      have htl := there_below H1.out.2.1 hbw H1.out.2.2.2.2.2
      have hbl := H1.out.2.2.1.trans (hbw.mono H1.out.2.2.1.size)
      have HX := Lib.hid (And.intro htl (And.intro hbl hca))
      have HQ := Lib.hid hqc
      clear htl hbl hca hbw hat hc hlt hqc
      have hrr := HX.out.2.2.r
      obtain ⟨x0, x1, x2, x3, x4, x5, x6, x7, x8, x9⟩ := ten HX.out.2.2.r
      obtain ⟨ca, cb, cha, chb, cg, cl, cs, chg, chl, chs⟩ := c
      dsimp only at hR x0 x1 x2 x3 x4 x5 x6 x7 x8 x9
      by_cases herr : ((cha = true ∧ chb = true) ∧ cb < ca) ∨ (chs = true ∧ cs ≤ 0)
      · rw [if_pos herr] at hR
        subst hR
        clear hrr
        rcases (show (cha = true ∧ chb = true ∧ ca > cb) ∨ (cha = false ∧ chs = true ∧ cs < 1) ∨ (cha = true ∧ chb = false ∧ chs = true ∧ cs < 1) ∨ (cha = true ∧ chb = true ∧ ¬ ca > cb ∧ chs = true ∧ cs < 1) by
          rcases herr with ⟨⟨h1, h2⟩, h3⟩ | ⟨h1, h2⟩
          · exact .inl ⟨h1, h2, h3⟩
          · cases cha with
            | false => exact .inr (.inl ⟨rfl, h1, by omega⟩)
            | true => cases chb with
              | false => exact .inr (.inr (.inl ⟨rfl, rfl, h1, by omega⟩))
              | true =>
                by_cases h3 : cb < ca
                · exact .inl ⟨rfl, rfl, h3⟩
                · exact .inr (.inr (.inr ⟨rfl, rfl, by omega, h1, by omega⟩))) with ⟨rfl, rfl, g1⟩ | ⟨rfl, rfl, g1⟩ | ⟨rfl, rfl, rfl, g1⟩ | ⟨rfl, rfl, g2, rfl, g1⟩
        all_goals
          clear herr
          go_wp2_with (refine wpList_store_mid rfl 47 (.tmp 2) (.tmp 125) rfl w.heap.size 0 cq0.vals.toArray rfl rfl HX.out.1 size_cond (all_oneCell_toArray (one10 cq0)) ?_)
          refine bodyPost_ret (results_cell_tmp2 rfl _ _ _ w.heap.size cq0.vals _ rfl (range_stored HX.out.1) Tryd.underlying47 rfl size_cond) rfl ?_
          exact ⟨rfl, below_setCells HX.out.2.1 (Nat.le_refl _) _ 0⟩
      · rw [if_neg herr] at hR
        subst hR
        have hq2 := HQ.out
        obtain ⟨CV, hCV⟩ : ∃ CV : Cq, CV = ⟨ca, cb, cha, chb, cg, cl, cs, chg, chl, chs⟩ := ⟨_, rfl⟩
        rw [← hCV] at hrr hq2
        have HV := Lib.hid (And.intro hrr (And.intro hq2 hCV))
        clear hrr hq2 hCV
        rcases (show (cha = false ∧ chs = false) ∨ (cha = true ∧ chb = false ∧ chs = false) ∨ (cha = true ∧ chb = true ∧ ¬ ca > cb ∧ chs = false) ∨ (cha = false ∧ chs = true ∧ ¬ cs < 1) ∨ (cha = true ∧ chb = false ∧ chs = true ∧ ¬ cs < 1) ∨ (cha = true ∧ chb = true ∧ ¬ ca > cb ∧ chs = true ∧ ¬ cs < 1) by
          cases cha with
          | false => cases chs with
            | false => exact .inl ⟨rfl, rfl⟩
            | true => exact .inr (.inr (.inr (.inl ⟨rfl, rfl, fun h => herr (.inr ⟨rfl, by omega⟩)⟩)))
          | true => cases chb with
            | false => cases chs with
              | false => exact .inr (.inl ⟨rfl, rfl, rfl⟩)
              | true => exact .inr (.inr (.inr (.inr (.inl ⟨rfl, rfl, rfl, fun h => herr (.inr ⟨rfl, by omega⟩)⟩))))
            | true => cases chs with
              | false => exact .inr (.inr (.inl ⟨rfl, rfl, fun h => herr (.inl ⟨⟨rfl, rfl⟩, h⟩), rfl⟩))
              | true => exact .inr (.inr (.inr (.inr (.inr ⟨rfl, rfl, fun h => herr (.inl ⟨⟨rfl, rfl⟩, h⟩), rfl, fun h => herr (.inr ⟨rfl, by omega⟩)⟩))))) with ⟨rfl, rfl⟩ | ⟨rfl, rfl, rfl⟩ | ⟨rfl, rfl, g2, rfl⟩ | ⟨rfl, rfl, g1⟩ | ⟨rfl, rfl, rfl, g1⟩ | ⟨rfl, rfl, g2, rfl, g1⟩
        all_goals
          clear herr
          go_wp2_with (first | (refine wpList_load_mid rfl 47 (.tmp 6) rfl w1.heap.size 0 rfl CV.vals _ HV.out.1 Tryd.underlying47 rfl size_cond ?_) | (refine wpList_store_mid rfl 47 (.tmp 2) (.tmp 126) rfl w.heap.size 0 CV.vals.toArray rfl rfl HX.out.1 size_cond (all_oneCell_toArray (one10 CV)) ?_))
          refine bodyPost_ret (results_cell_tmp2 rfl _ _ _ w.heap.size CV.vals _ rfl (range_stored HX.out.1) Tryd.underlying47 rfl size_cond) rfl ?_
          exact ⟨by rw [HV.out.2.1, HV.out.2.2]; rfl, below_setCells HX.out.2.1 (Nat.le_refl _) _ 0⟩
end Go.Proofs.YtbclgalocipmfaaDoor
