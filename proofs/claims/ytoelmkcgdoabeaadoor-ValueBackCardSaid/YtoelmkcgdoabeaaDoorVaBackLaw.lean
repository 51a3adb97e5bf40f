/-
  The law ValueBack.
-/
import Derived.Test.YtoelmkcgdoabeaaDoorVaAlive
import Derived.Test.YtoelmkcgdoabeaaDoorRefCopy
import Derived.Test.YtoelmkcgdoabeaaDoorVaOver
import Derived.Test.YtoelmkcgdoabeaaDoorVaBackPure
import Derived.Test.YtoelmkcgdoabeaaDoorVaSame
namespace Go.Proofs.YtoelmkcgdoabeaaDoor
open Go.RowKit
set_option maxRecDepth 100000
set_option linter.unusedVariables false
theorem ofE_cases (k n : Int) (sl ok bl : Nat) (o i : Int) (h : ofE k n sl ok bl o i = 0) : k ≠ 0 ∧ rightB k n sl ok bl o i = true := by
  unfold ofE at h
  split at h
  · cases h
  · split at h
    · exact ⟨by omega, by assumption⟩
    · cases h
/-- What each operation of the line in the middle leaves. -/
def VbR (vx vy : Value) (k n : Int) (s : ByteArray) (o i : Int) (A : Option Addr) (m c : Nat) (l : List UInt8) (j : Nat) (w : World) (v : Value) : Prop :=
  match j with
  | 0 => v = .int .i64 0
  | 9 | 16 => v = .bool true
  | 3 | 8 | 13 => v = vy
  | 7 => v = vx
  | 14 => ∃ A5 c5, v = .agg #[.int .i64 k, .int .i64 n, .string s, .slice A5 l.length c5, .int .i64 o, .int .i64 i] ∧ Bs w w.heap.size A5 l.length l
  | 15 => v = .agg #[.int .i64 k, .int .i64 n, .string s, .slice A m c, .int .i64 o, .int .i64 i]
  | _ => v = .bool false
theorem VbR.grow {vx vy : Value} {k n : Int} {s : ByteArray} {o i : Int} {A : Option Addr} {m c : Nat} {l : List UInt8} (j : Nat) (w w' : World) (v : Value) (hb : Below w.heap.size w w') (h : VbR vx vy k n s o i A m c l j w v) : VbR vx vy k n s o i A m c l j w' v := by
  unfold VbR at h ⊢
  split at h
  all_goals first | exact h | (obtain ⟨A5, c5, h1, h2⟩ := h; exact ⟨A5, c5, h1, (h2.below hb).more hb.size⟩)
set_option maxHeartbeats 8000000 in
theorem vback_law (k n : Int) (s : ByteArray) (A : Option Addr) (m c : Nat) (o i : Int) (l : List UInt8) (w : World) (hn : I64 n) (ho : I64 o) (hi : I64 i) (hbs : Bs w w.heap.size A m l) (hc : m ≤ c) (hT : Tabs w) :
    Calls Tryd.prog 12 #[.agg #[.int .i64 k, .int .i64 n, .string s, .slice A m c, .int .i64 o, .int .i64 i]] w fun e w' => e = .returned (.bool true) ∧ Below w.heap.size w w' := by
  have hb0 := alloc_below w (.cells #[.int .i64 k, .int .i64 n, .string s, .slice A m c, .int .i64 o, .int .i64 i] 24)
  have hr0 := range_newB w #[.int .i64 k, .int .i64 n, .string s, .slice A m c, .int .i64 o, .int .i64 i] 24 rfl
  have hz0 : w.heap.size < (w.alloc (.cells #[.int .i64 k, .int .i64 n, .string s, .slice A m c, .int .i64 o, .int .i64 i] 24)).heap.size := by rw [alloc_size]; exact Nat.lt_succ_self _
  obtain ⟨W0, hW0⟩ : ∃ W0, w.alloc (.cells #[.int .i64 k, .int .i64 n, .string s, .slice A m c, .int .i64 o, .int .i64 i] 24) = W0 := ⟨_, rfl⟩
  rw [hW0] at hb0 hr0 hz0
  have cA := fun W (hW : Below w.heap.size w W) => alive14 W (hT.below hW hT.size)
  have hcl : ∀ W, Below W0.heap.size W0 W → W.rangeAt w.heap.size 0 [.int .i64 k, .int .i64 n, .string s, .slice A m c, .int .i64 o, .int .i64 i] := fun W hW => range_below hr0 hW hz0
  have hup : ∀ W, Below W0.heap.size W0 W → Below w.heap.size w W := fun W hW => hb0.trans (hW.mono (Nat.le_of_lt hz0))
  have HC := Lib.hid (And.intro hcl (And.intro hup (And.intro hbs (And.intro hT (And.intro hc hz0)))))
  have H0 := Lib.hid hb0
  have HN := Lib.hid (And.intro hn (And.intro ho hi))
  have hSh := fun W => short_f k n s A m c o i W
  have HW := Lib.hid hW0
  clear hb0 hr0 hz0 hW0 hcl hup hbs hT hc hn ho hi
  by_cases hsh : shortB s.size m = true
  · rw [hsh] at hSh
    unfold shortB at hsh
    have hsh := of_decide_eq_true hsh
    have hlen := HC.out.2.2.1.len
    have cC := fun W (hW : Below W0.heap.size W0 W) => copy_any A m c l W w.heap.size (HC.out.2.2.1.below' (HC.out.2.1 W hW) (Nat.le_refl _)) (HC.out.2.1 W hW).size (by omega)
    have cO := fun W A4 c4 (hW : Below w.heap.size w W) (h4 : Bs W W.heap.size A4 m l) => of_f k n s A4 m c4 o i l W W.heap.size h4 (Nat.le_refl _) (by omega) (by omega) (HC.out.2.2.2.1.below hW HC.out.2.2.2.1.size)
    obtain ⟨er, her⟩ : ∃ er, ofE k n s.size (okN (runesQ s.data.toList)) m o i = er := ⟨_, rfl⟩
    rw [her] at cO
    have HE := Lib.hid (And.intro her (And.intro hsh hlen))
    clear her hsh hlen
    go_enter Tryd.func12, Tryd.ntmps12
    go_wp2_with fail
    rw [HW.out]
    refine (cA _ H0.out).mono ?_
    rintro e w1 ⟨rfl, b1⟩
    have h1 := HC.out.1 w1 b1
    have p0 := h1 0 _ rfl
    have p1 := h1 1 _ rfl
    have p2 := h1 2 _ rfl
    have p3 := h1 3 _ rfl
    have p4 := h1 4 _ rfl
    have p5 := h1 5 _ rfl
    simp only [Nat.zero_add] at p0 p1 p2 p3 p4 p5
    clear h1
    go_wp2_with fail
    refine (hSh w1).mono ?_
    rintro e w2 ⟨rfl, b2⟩
    have b2 := b1.trans (b2.mono b1.size)
    clear p0 p1 p2 p3 p4 p5 b1 hSh cA
    have h1 := HC.out.1 w2 b2
    have p0 := h1 0 _ rfl
    have p1 := h1 1 _ rfl
    have p2 := h1 2 _ rfl
    have p3 := h1 3 _ rfl
    have p4 := h1 4 _ rfl
    have p5 := h1 5 _ rfl
    simp only [Nat.zero_add] at p0 p1 p2 p3 p4 p5
    have q3 : (w2.alloc (.cells #[.int .i64 k, .int .i64 n, .string s, .slice A m c, .int .i64 o, .int .i64 i] 24)).cell? ⟨w.heap.size, 3, none⟩ = some (.slice A m c) := (Below.refl w2.heap.size w2 |>.alloc (Nat.le_refl _) (.cells #[.int .i64 k, .int .i64 n, .string s, .slice A m c, .int .i64 o, .int .i64 i] 24)).cell (p := ⟨w.heap.size, 3, none⟩) (Nat.lt_of_lt_of_le HC.out.2.2.2.2.2 b2.size) |>.trans p3
    clear h1
    go_wp2_with fail
    have b3 : Below W0.heap.size W0 (w2.alloc (.cells #[.int .i64 k, .int .i64 n, .string s, .slice A m c, .int .i64 o, .int .i64 i] 24)) := b2.alloc b2.size _
    have r3 := range_newB w2 #[.int .i64 k, .int .i64 n, .string s, .slice A m c, .int .i64 o, .int .i64 i] 24 rfl
    have t3 : (w2.alloc (.cells #[.int .i64 k, .int .i64 n, .string s, .slice A m c, .int .i64 o, .int .i64 i] 24)).there w2.heap.size 0 6 := there_new w2 _ 24 rfl
    have hg3 : w2.heap.size < (w2.alloc (.cells #[.int .i64 k, .int .i64 n, .string s, .slice A m c, .int .i64 o, .int .i64 i] 24)).heap.size := by rw [alloc_size]; exact Nat.lt_succ_self _
    have hgz := b2.size
    clear q3 p0 p1 p2 p3 p4 p5 b2
    generalize (w2.alloc (.cells #[.int .i64 k, .int .i64 n, .string s, .slice A m c, .int .i64 o, .int .i64 i] 24)) = w3 at *
    generalize w2.heap.size = g3 at *
    refine (cC w3 b3).mono ?_
    intro e w4 h4
    obtain ⟨v4, rfl, ho4, b4⟩ := h4
    obtain ⟨A4, c4, rfl, hc4⟩ := own_slice ho4
    have hN4 := NewB.of_own (HE.out.2.2 ▸ ho4)
    rw [HE.out.2.2]
    rw [HE.out.2.2] at hc4
    clear ho4
    have r4 := range_below r3 b4 hg3
    have t4 := there_below t3 b4 hg3
    have f4 : w4.frozen? ⟨g3, 3, none⟩ = false := (t4 3 (by decide)).2
    have e4 : w4.cell? ⟨g3, 3, none⟩ = some (.slice A m c) := r4 3 _ rfl
    have r5 := range_set r4 t4 3 (show 3 < 6 by decide) (.slice A4 m c4)
    have t5 := there_set t4 ⟨g3, 0 + 3, none⟩ (.slice A4 m c4)
    have b5 := (b3.trans (b4.mono b3.size)).setCell (p := ⟨g3, 0 + 3, none⟩) hgz (.slice A4 m c4)
    have hN5 := hN4.2.set hg3 (0 + 3) (.slice A4 m c4)
    have hz5 : w3.heap.size ≤ (w4.setCell ⟨g3, 0 + 3, none⟩ (.slice A4 m c4)).heap.size := by rw [World.size_setCell]; exact b4.size
    simp only [Nat.zero_add] at r5 t5 b5 hN5 hz5
    have q0 : (w4.setCell ⟨g3, 3, none⟩ (.slice A4 m c4)).cell? ⟨g3, 0, none⟩ = some (.int .i64 k) := r5 0 _ rfl
    have q1 : (w4.setCell ⟨g3, 3, none⟩ (.slice A4 m c4)).cell? ⟨g3, 1, none⟩ = some (.int .i64 n) := r5 1 _ rfl
    have q2 : (w4.setCell ⟨g3, 3, none⟩ (.slice A4 m c4)).cell? ⟨g3, 2, none⟩ = some (.string s) := r5 2 _ rfl
    have q3 : (w4.setCell ⟨g3, 3, none⟩ (.slice A4 m c4)).cell? ⟨g3, 3, none⟩ = some (.slice A4 m c4) := r5 3 _ rfl
    have q4 : (w4.setCell ⟨g3, 3, none⟩ (.slice A4 m c4)).cell? ⟨g3, 4, none⟩ = some (.int .i64 o) := r5 4 _ rfl
    have q5 : (w4.setCell ⟨g3, 3, none⟩ (.slice A4 m c4)).cell? ⟨g3, 5, none⟩ = some (.int .i64 i) := r5 5 _ rfl
    have H5 := Lib.hid (And.intro r5 (And.intro t5 (And.intro b5 (And.intro hN5 (And.intro hz5 (And.intro hg3 (And.intro hgz hN4.1)))))))
    clear r4 t4 r5 t5 b5 hN5 hz5 hg3 hgz hN4 b3 b4 r3 t3 cC hc4
    go_wp2_with fail
    generalize w4.setCell ⟨g3, 3, none⟩ (.slice A4 m c4) = w5 at *
    have cO5 := cO w5 A4 c4 (HC.out.2.1 w5 H5.out.2.2.1) H5.out.2.2.2.1.bs
    clear cO q0 q1 q2 q4 q5 f4 e4
    by_cases he : er = 0
    · subst he
      have hoc := ofE_cases k n s.size (okN (runesQ s.data.toList)) m o i HE.out.1
      obtain ⟨wl, hwl⟩ : ∃ wl, wireQ k n s l o i = wl := ⟨_, rfl⟩
      have hback := wire_back k n s l o i HN.out.1 (by rw [HE.out.2.2]; exact hoc.2)
      have hwlen := wire_len k n s l o i HE.out.2.1.1 (by rw [HE.out.2.2]; exact HE.out.2.1.2)
      rw [hwl] at hback hwlen
      have HK := Lib.hid (And.intro hoc.1 (And.intro hback (And.intro hwlen hwl)))
      clear hoc hback hwlen hwl
      refine cO5.mono ?_
      intro e w6 h6
      obtain ⟨x, rfl, hx, b6⟩ := h6.val
      have qA := vl_nilq x (by rw [hx.k]; exact HK.out.1)
      have gA := vl_guard x (by rw [hx.k]; exact HK.out.1)
      have fA : FlatOf x.val k n s x.a x.l x.c o i := by
        have := x.flatOf
        rwa [hx.k, hx.n, hx.s, hx.o, hx.i] at this
      have r6 := range_below H5.out.1 b6 (Nat.lt_of_lt_of_le H5.out.2.2.2.2.2.1 H5.out.2.2.2.2.1)
      have q6 : w6.cell? ⟨g3, 3, none⟩ = some (.slice A4 m c4) := r6 3 _ rfl
      have hNx := H5.out.2.2.2.1.up b6
      have hlt4 := H5.out.2.2.2.1.lt
      have hb6 : Below W0.heap.size W0 w6 := H5.out.2.2.1.trans (b6.mono H5.out.2.2.1.size)
      have hxl := hx.bs.len
      have H6 := Lib.hid (And.intro fA (And.intro hx (And.intro hNx (And.intro hlt4 (And.intro hb6 (And.intro b6 hxl))))))
      clear h6 cO5 fA r6 hNx hlt4 hb6 b6 hx q3 hxl
      have hcS := fun (y : Vl) (W : World) (b : Nat) (B1 B2 : Nat) (hy : y.Is k n s l o i b W) (h1 : Bs W B1 x.a x.l l) (h2 : Bs W B2 y.a y.l l) => same_f x y l l W B1 B2 h1 h2 (by rw [H6.out.2.1.k]; have := HK.out.1; simp [this])
      generalize hvx : x.val = vx at *
      have HX := Lib.hid hvx
      clear hvx
      go_wp2_with fail
      go_loopw [42] (fun iv wr => ∃ j : Nat, j ≤ m ∧ iv = .int .i64 (j : Int) ∧ Aside (Ov w3.heap.size A4 m w6 wr)) (fun iv _ => m - (intOf iv).toNat)
      case atStart => exact ⟨0, Nat.zero_le _, rfl, Ov.first H6.out.2.2.1.wr⟩
      case round =>
        obtain ⟨j, hjm, rfl, hrel⟩ := hrel
        by_cases hjl : j < m
        · have hq : wr.cell? ⟨g3, 3, none⟩ = some (.slice A4 m c4) := (hrel.out.low.cell (p := ⟨g3, 3, none⟩) H5.out.2.2.2.2.2.1).trans q6
          have hset := hrel.out
          obtain ⟨g, og, rfl, hg, ht, hcell⟩ := hrel.out.wr (by omega)
          obtain ⟨z, hz⟩ := hcell j hjl
          have hfj := (ht j hjl).2
          have hjI : (j : Int) < m := by omega
          have hm1 : m ≤ 1000 := HE.out.2.1.2
          have HS := Lib.hid (hset.set j hjl)
          clear hrel ht hcell hset q6
          go_wp2
          go_roundw
          case rel => exact ⟨j + 1, by omega, by go_num, (show Aside _ from HS.out _)⟩
          case measure => simp [intOf]; omega
        · obtain rfl : m = j := by omega
          have hjI : ¬ (m : Int) < m := by omega
          have H7 := Lib.hid hrel.out
          clear hrel q6
          go_wp2_with fail
          have hxb7 : Bs wr wr.heap.size x.a x.l l := by
            rw [H7.out.size]
            exact H7.out.bs H6.out.2.1.bs (fun h0 _ ad ad' e e' => by have a1 := H6.out.2.2.2.1 h0 ad e; have a2 := H6.out.2.1.fresh ad' e'; omega)
          have b7 : Below W0.heap.size W0 wr := H6.out.2.2.2.2.1.trans (H7.out.low.mono (Nat.le_trans H5.out.2.2.2.2.2.2.1 (Nat.le_of_lt H5.out.2.2.2.2.2.1)))
          have cWx := fun W (hb : Bs W W.heap.size x.a x.l l) => wire_l vx k n s x.a x.l x.c o i l W H6.out.1 HN.out.1 HN.out.2.1 HN.out.2.2 W.heap.size hb (Nat.le_refl _) (by have := H6.out.2.2.2.2.2.2; have := HE.out.2.1.2; have := HE.out.2.2; omega)
          rw [HK.out.2.2.2] at cWx
          obtain ⟨w7, rfl⟩ : ∃ w7, w7 = wr := ⟨_, rfl⟩
          refine (cWx w7 hxb7).mono ?_
          rintro e w8 ⟨A8, n8, c8, rfl, hc8, hn8, hN8, b8⟩
          have hb8 := b7.trans (b8.mono b7.size)
          have p0 : w8.cell? ⟨w.heap.size, 0, none⟩ = some (.int .i64 k) := HC.out.1 w8 hb8 0 _ rfl
          have cU := unwire_f k A8 n8 c8 wl w8 w8.heap.size hN8.bs (Nat.le_refl _) (by have := HK.out.2.2.1; omega) hc8 (HC.out.2.2.2.1.below (HC.out.2.1 w8 hb8) HC.out.2.2.2.1.size)
          rw [HK.out.2.1.1, HK.out.2.1.2.1, HK.out.2.1.2.2.1, HK.out.2.1.2.2.2.1, HK.out.2.1.2.2.2.2.1, HK.out.2.1.2.2.2.2.2] at cU
          have hxb8 := (hxb7.below b8).more b8.size
          have H67 := Lib.hid H7.out.size
          have H8 := Lib.hid (And.intro hxb8 (And.intro hN8 (And.intro hb8 (And.intro b7.size (And.intro hc8 hn8)))))
          clear hxb8 hN8 hb8 b7 hxb7 H7 hc8 hn8
          go_wp2_with fail
          refine cU.mono ?_
          intro e w9 h9
          obtain ⟨y, rfl, hy, b9⟩ := h9.val
          have qB := vl_nilq y (by rw [hy.k]; exact HK.out.1)
          have gB := vl_guard y (by rw [hy.k]; exact HK.out.1)
          have fB : FlatOf y.val k n s y.a y.l y.c o i := by
            have := y.flatOf
            rwa [hy.k, hy.n, hy.s, hy.o, hy.i] at this
          have hyl := hy.bs.len
          have hyb := hy.bs
          have hyc := hy.cap
          have hxb9 := (H8.out.1.below b9).more b9.size
          have hN9 := H8.out.2.1.up b9
          have hb9 : Below W0.heap.size W0 w9 := H8.out.2.2.1.trans (b9.mono H8.out.2.2.1.size)
          have hsm := is_same HK.out.1 H6.out.2.1 hy
          have hml : l.length ≤ 1000 := by have := HE.out.2.1.2; have := HE.out.2.2; omega
          have cSm := fun W (hW : Below w9.heap.size w9 W) => same_f x y l l W w9.heap.size w9.heap.size (hxb9.below hW) (hyb.below hW) (by rw [H6.out.2.1.k]; have := HK.out.1; simp [this])
          rw [hsm] at cSm
          simp only [HX.out] at cSm
          have cVy := fun W (hW : Below w9.heap.size w9 W) => val_l y.val k n s y.a y.l y.c o i l W fB (by have := HE.out.2.1.1; omega) w9.heap.size (hyb.below hW) hW.size (by omega)
          have cS13 := fun W A1 c1 (hW : Below w9.heap.size w9 W) (h1 : Bs W W.heap.size A1 l.length l) => rsame13_yes k n s o i l A1 A l.length c1 m c W W.heap.size w.heap.size h1 (HC.out.2.2.1.below' (HC.out.2.1 W (hb9.trans (hW.mono hb9.size))) (Nat.le_refl _)) (Nat.le_refl _) (HC.out.2.1 W (hb9.trans (hW.mono hb9.size))).size (by omega)
          have hclv : ∀ W, Below w9.heap.size w9 W → W.rangeAt w.heap.size 0 [.int .i64 k, .int .i64 n, .string s, .slice A m c, .int .i64 o, .int .i64 i] := fun W hW => HC.out.1 W (hb9.trans (hW.mono hb9.size))
          have H9 := Lib.hid (And.intro hxb9 (And.intro hyb (And.intro hN9 (And.intro hb9 (And.intro fB (And.intro hyl b9.size))))))
          clear hyb hyl hy hxb9 hN9 hb9 hsm hml fB h9 cU p0 b9 hyc qA gA cWx
          generalize hvy : y.val = vy at *
          clear hvy
          go_wp2_with fail
          refine wp_region_rel (fun w' => Below w9.heap.size w9 w') (fun w w' => Below w.heap.size w w') (VbR vx vy k n s o i A m c l) [(1, .pointer (some ⟨w.heap.size, 0, none⟩)), (4, vx), (8, vy), (9, .int .i64 0)] (by kernel_rfl) (by kernel_rfl) (by kernel_rfl) ?base (Below.drew (Below.refl _ _)) (fun i w w' v hb h => VbR.grow i w w' v hb h) ?steps ?fin
          case base =>
            intro x hx
            simp only [List.mem_cons, List.not_mem_nil, or_false] at hx
            rcases hx with rfl | rfl | rfl | rfl <;> exact ⟨rfl, rfl⟩
          case steps =>
            clear H5 HE HN HW H0 hcS H6 H8 H9 HK HX
            refine steps_cons ?_ (steps_cons ?_ (steps_cons ?_ (steps_cons ?_ (steps_cons ?_ (steps_cons ?_ (steps_cons ?_ (steps_cons ?_ (steps_cons ?_ (steps_cons ?_ (steps_cons ?_ (steps_cons ?_ (steps_cons ?_ (steps_cons ?_ (steps_cons ?_ (steps_cons ?_ (steps_cons ?_ (steps_cons ?_ (steps_cons ?_ steps_nil))))))))))))))))))
            · intro a wq K hS hB hR hK
              rw [if_pos (wanted_none rfl)]
              have h9 := tmp_is (hB.2.2.2.1)
              go_simp
              exact hK (.int .i64 0) wq hS (Below.refl _ wq) rfl
            · intro a wq K hS hB hR hK
              rw [if_pos (wanted_none rfl)]
              have h62 := tmp_is (hR.1)
              go_simp
              exact hK (.bool false) wq hS (Below.refl _ wq) rfl
            · intro a wq K hS hB hR hK
              rw [if_pos (wanted_none rfl)]
              have h63 := tmp_is (hR.1)
              go_simp
              exact hK (.bool false) wq hS (Below.refl _ wq) rfl
            · intro a wq K hS hB hR hK
              rw [if_pos (wanted_some rfl (hR.1))]
              have h8 := tmp_is (hB.2.2.1)
              go_simp
              exact hK vy wq hS (Below.refl _ wq) rfl
            · intro a wq K hS hB hR hK
              rw [if_pos (wanted_some rfl (hR.2.1))]
              have h65 := tmp_is (hR.1)
              go_simp
              exact hK (.bool false) wq hS (Below.refl _ wq) rfl
            · intro a wq K hS hB hR hK
              rw [if_pos (wanted_none rfl)]
              have h64 := tmp_is (hR.1)
              have h66 := tmp_is (hR.2.1)
              go_simp
              exact hK (.bool false) wq hS (Below.refl _ wq) rfl
            · intro a wq K hS hB hR hK
              rw [if_pos (wanted_none rfl)]
              have h67 := tmp_is (hR.1)
              go_simp
              exact hK (.bool false) wq hS (Below.refl _ wq) rfl
            · intro a wq K hS hB hR hK
              rw [if_pos (wanted_some rfl (hR.1))]
              have h4 := tmp_is (hB.2.1)
              go_simp
              exact hK vx wq hS (Below.refl _ wq) rfl
            · intro a wq K hS hB hR hK
              rw [if_pos (wanted_some rfl (hR.1))]
              have h8 := tmp_is (hB.2.2.1)
              go_simp
              exact hK vy wq hS (Below.refl _ wq) rfl
            · intro a wq K hS hB hR hK
              rw [if_pos (wanted_some rfl (hR.2.2.1))]
              have h69 := tmp_is (hR.1)
              have h70 := tmp_is (hR.2.1)
              go_simp
              refine (cSm _ hS).mono ?_
              rintro e wq' ⟨rfl, hb⟩
              exact hK _ _ (hS.trans (hb.mono hS.size)) hb rfl
            · intro a wq K hS hB hR hK
              rw [if_pos (wanted_some rfl (hR.2.1))]
              have h71 := tmp_is (hR.1)
              go_simp
              exact hK (.bool false) wq hS (Below.refl _ wq) rfl
            · intro a wq K hS hB hR hK
              rw [if_pos (wanted_none rfl)]
              have h68 := tmp_is (hR.1)
              have h72 := tmp_is (hR.2.1)
              go_simp
              exact hK (.bool false) wq hS (Below.refl _ wq) rfl
            · intro a wq K hS hB hR hK
              rw [if_pos (wanted_none rfl)]
              have h73 := tmp_is (hR.1)
              go_simp
              exact hK (.bool false) wq hS (Below.refl _ wq) rfl
            · intro a wq K hS hB hR hK
              rw [if_pos (wanted_some rfl (hR.1))]
              have h8 := tmp_is (hB.2.2.1)
              go_simp
              exact hK vy wq hS (Below.refl _ wq) rfl
            · intro a wq K hS hB hR hK
              rw [if_pos (wanted_some rfl (hR.2.1))]
              have h75 := tmp_is (hR.1)
              go_simp
              refine (cVy _ hS).mono ?_
              rintro e wq' ⟨A5, c5, rfl, _, hB5, hb⟩
              exact hK _ _ (hS.trans (hb.mono hS.size)) hb ⟨A5, c5, rfl, hB5⟩
            · intro a wq K hS hB hR hK
              rw [if_pos (wanted_some rfl (hR.1))]
              have h1 := tmp_is (hB.1)
              have h5 := hclv wq hS
              have r0 := h5 0 _ rfl
              have r1 := h5 1 _ rfl
              have r2 := h5 2 _ rfl
              have r3 := h5 3 _ rfl
              have r4 := h5 4 _ rfl
              have r5 := h5 5 _ rfl
              go_simp
              exact hK (.agg #[.int .i64 k, .int .i64 n, .string s, .slice A m c, .int .i64 o, .int .i64 i]) wq hS (Below.refl _ wq) rfl
            · intro a wq K hS hB hR hK
              rw [if_pos (wanted_some rfl (hR.2.2.2.1))]
              have h77 := tmp_is (hR.2.1)
              obtain ⟨A5, c5, hv, hB5⟩ := hR.1
              have h76 := tmp_is hv
              go_simp
              refine (cS13 wq A5 c5 hS hB5).mono ?_
              rintro e wq' ⟨rfl, hb⟩
              exact hK _ _ (hS.trans (hb.mono hS.size)) hb rfl
            · intro a wq K hS hB hR hK
              rw [if_pos (wanted_some rfl (hR.2.1))]
              have h78 := tmp_is (hR.1)
              go_simp
              exact hK (.bool false) wq hS (Below.refl _ wq) rfl
            · intro a wq K hS hB hR hK
              rw [if_pos (wanted_none rfl)]
              have h74 := tmp_is (hR.1)
              have h79 := tmp_is (hR.2.1)
              go_simp
              exact hK (.bool false) wq hS (Below.refl _ wq) rfl
          case fin =>
            intro a w10 hS10 ha hR
            have h80 : a.eval (.tmp 80) = .bool false := deps_mem _ hR 18 (by decide)
            have H10 := Lib.hid hS10
            clear hR hS10 cSm cVy cS13 hclv
            simp only [pin] at ha
            rw [ha]
            simp only [List.setIfInBounds_toArray, List.set_cons_zero, List.set_cons_succ, h80]
            clear ha h80
            go_wp2_with fail
            -- P19
            have hb10 : Below W0.heap.size W0 w10 := H9.out.2.2.2.1.trans (H10.out.mono H9.out.2.2.2.1.size)
            have cWy := wire_l vy k n s y.a y.l y.c o i l w10 H9.out.2.2.2.2.1 HN.out.1 HN.out.2.1 HN.out.2.2 w9.heap.size (H9.out.2.1.below H10.out) H10.out.size (by have := H9.out.2.2.2.2.2.1; have := HE.out.2.1.2; have := HE.out.2.2; omega)
            rw [HK.out.2.2.2] at cWy
            have cWx := fun W (hb : Bs W W.heap.size x.a x.l l) => wire_l vx k n s x.a x.l x.c o i l W H6.out.1 HN.out.1 HN.out.2.1 HN.out.2.2 W.heap.size hb (Nat.le_refl _) (by have := H6.out.2.2.2.2.2.2; have := HE.out.2.1.2; have := HE.out.2.2; omega)
            rw [HK.out.2.2.2] at cWx
            refine cWy.mono ?_
            rintro e w11 ⟨A11, n11, c11, rfl, hc11, hn11, hN11, b11⟩
            have bT9 := H10.out.trans (b11.mono H10.out.size)
            have p0 : w11.cell? ⟨w.heap.size, 0, none⟩ = some (.int .i64 k) := HC.out.1 w11 (hb10.trans (b11.mono hb10.size)) 0 _ rfl
            clear cWy hb10 b11 hc11 hcS qB gB
            by_cases hk1 : k = 1
            · subst hk1
              by_cases hbig : 1 < n8
              · have hwl1 : wl = bytesQ n (widthQ n) := by rw [← HK.out.2.2.2]; exact if_pos (.inl rfl)
                have hnw : n8 = widthQ n := by rw [H8.out.2.2.2.2.2, hwl1, bytesQ_len]
                have hhalf := half_other n HN.out.1 (by omega)
                rw [← hwl1, ← hnw] at hhalf
                have hw4 := width_in n
                rw [← hnw] at hw4
                clear hnw hwl1
                have hN8 := H9.out.2.2.1.up bT9
                have hc8 := H8.out.2.2.2.2.1
                rcases hw4 with h8 | h8 | h8 | h8
                · omega
                · subst h8
                  obtain ⟨g8, o8, rfl, hg8, hpl⟩ := hN8.bs.place (by decide)
                  clear hpl
                  have hcut := hN8.bs.drop_ 1
                  have hcc : ¬ c8 = 1 := by omega
                  obtain ⟨hf, hhf⟩ : ∃ hf, signedQ (wl.drop 1) = hf := ⟨_, rfl⟩
                  have hne : hf ≠ n := by rw [← hhf]; exact hhalf.2
                  have hE : unwE 1 (wl.drop 1) = 0 := by
                    unfold unwE
                    rw [if_pos (.inl rfl)]
                    have h9 := hhalf.1
                    rw [show (2 : Nat) / 2 = 1 from rfl] at h9
                    rw [h9, if_pos rfl]
                  have cH := fun W (hW : Below w11.heap.size w11 W) => unwire_f 1 (some ⟨g8, o8 + 1, none⟩) 1 (c8 - 1) (wl.drop 1) W w11.heap.size (hcut.below hW) hW.size (by omega) (by omega) (HC.out.2.2.2.1.below (HC.out.2.1 W (H9.out.2.2.2.1.trans ((bT9.trans (hW.mono bT9.size)).mono H9.out.2.2.2.1.size))) HC.out.2.2.2.1.size)
                  rw [hE, show unwN 1 (wl.drop 1) = hf from hhf, show unwS 1 (wl.drop 1) = ⟨#[]⟩ from rfl, show unwL 1 (wl.drop 1) = [] from rfl, show unwO 1 (wl.drop 1) = 0 from rfl, show unwI 1 (wl.drop 1) = 0 from rfl] at cH
                  have ISA := Lib.hid (fun (x : Vl) (W : World) (b : Nat) (h : x.Is 1 hf ⟨#[]⟩ [] 0 0 b W) => congrArg Vl.val (Vl.is_num h))
                  have hvs : vlSame (.num hf) x [] l = false := by
                    have h1 := H6.out.2.1.k
                    have h2 := H6.out.2.1.n
                    clear HX H6 cWx
                    cases x <;> simp only [Vl.k, Vl.n] at h1 h2 <;> first | (exfalso; omega) | (subst h2; simp only [vlSame, Vl.isB, Vl.eq2]; simpa using hne)
                  have cSz := fun W (hW : Below w9.heap.size w9 W) => same_f (.num hf) x [] l W 0 w9.heap.size (Bs.empty _ _ _) (H9.out.1.below hW) (by simp [Vl.k])
                  rw [hvs] at cSz
                  simp only [HX.out] at cSz
                  generalize hvz : (Vl.num hf).val = vz at *
                  have HQ11 := Lib.hid hn11
                  clear hE hhf hne hvs hcut hhalf hg8 hvz hbig hn11
                  go_wp2_with fail
                  refine (cH w11 (Below.refl _ _)).mono ?_
                  intro e w12 h12
                  obtain ⟨y2, rfl, hy2, b12⟩ := h12.val
                  rw [ISA.out y2 w12 _ hy2]
                  clear h12 hy2 p0
                  go_wp2_with fail
                  refine (cH w12 b12).mono ?_
                  intro e w16 h16
                  obtain ⟨y3, rfl, hy3, b16⟩ := h16.val
                  rw [ISA.out y3 w16 _ hy3]
                  have b16 := b12.trans (b16.mono b12.size)
                  clear h16 hy3 cH b12
                  go_wp2_with fail
                  refine (cSz w16 (bT9.trans (b16.mono bT9.size))).mono ?_
                  rintro e w17 ⟨rfl, b17⟩
                  have b17 := b16.trans (b17.mono b16.size)
                  have hN11 := hN11.up b17
                  have bT9 := bT9.trans (b17.mono bT9.size)
                  have hn11 := HQ11.out
                  clear b17 b16 cSz ISA hN8
                  have bT : Below W0.heap.size W0 w17 := H9.out.2.2.2.1.trans (bT9.mono H9.out.2.2.2.1.size)
                  have hNT := H9.out.2.2.1.up bT9
                  have hxT := H9.out.1.below bT9
                  have HT := Lib.hid (And.intro bT (And.intro hxT (And.intro hN11 (And.intro hn11 bT9.size))))
                  clear bT bT9 hxT hN11 hn11
                  go_wp2_with fail
                  try clear p0
                  go_loopw [116] (fun iv wr => ∃ j : Nat, j ≤ 2 ∧ iv = .int .i64 (j : Int) ∧ Aside (Ov w7.heap.size (some ⟨g8, o8, none⟩) 2 w17 wr)) (fun iv _ => 2 - (intOf iv).toNat)
                  case atStart => exact ⟨0, Nat.zero_le _, rfl, Ov.first hNT.wr⟩
                  case round =>
                    obtain ⟨j, hjm, rfl, hrel⟩ := hrel
                    by_cases hjl : j < 2
                    · have hset := hrel.out
                      obtain ⟨g, og, e8, hg, ht, hcell⟩ := hrel.out.wr (by omega)
                      cases e8
                      obtain ⟨z, hz⟩ := hcell j hjl
                      have hfj := (ht j hjl).2
                      have hjI : (j : Int) < 2 := by omega
                      have HS := Lib.hid (hset.set j hjl)
                      clear hrel ht hcell hset hc8 hcc
                      go_wp2
                      go_roundw
                      case rel => exact ⟨j + 1, by omega, by go_num, (show Aside _ from HS.out _)⟩
                      case measure => simp [intOf]; omega
                    · have hjI : ¬ (j : Int) < 2 := by omega
                      have h13 := hrel.out
                      have hx13 : Bs wr wr.heap.size x.a x.l l := by
                        have h1 : Bs w17 w9.heap.size x.a x.l l := HT.out.2.1
                        have h2 := h13.bs h1 (fun h0 hx0 ad ad' e e' => by
                          have a1 := hNT.fresh ad e
                          have a2 := H6.out.2.1.bs.lt_ hx0 ad' e'
                          have a3 := H67.out
                          omega)
                        exact h2.more (by rw [h13.size]; exact HT.out.2.2.2.2)
                      have h11 : Bs wr wr.heap.size A11 n11 wl := by
                        have h2 := h13.bs HT.out.2.2.1.bs (fun h0 hx0 ad ad' e e' => by
                          have a1 := H9.out.2.2.1.lt h0 ad e
                          have a2 := HT.out.2.2.1.fresh ad' e'
                          have a3 := H10.out.size
                          omega)
                        rw [h13.size]
                        exact h2
                      have b13 : Below W0.heap.size W0 wr := HT.out.1.trans (h13.low.mono H8.out.2.2.2.1)
                      obtain ⟨w13, rfl⟩ : ∃ w13, w13 = wr := ⟨_, rfl⟩
                      have cW13 := cWx w13 hx13
                      have H13 := Lib.hid (And.intro h11 b13)
                      clear hrel h13 hx13 h11 b13 cWx hNT hjm hjl hc8 hcc
                      go_wp2_with fail
                      refine cW13.mono ?_
                      rintro e w14 ⟨A14, n14, c14, rfl, hc14, hn14, hN14, b14⟩
                      have cS14 := same_any A14 A11 n14 c14 n11 c11 wl wl w14 w14.heap.size w13.heap.size hN14.bs (H13.out.1.below b14) (by have := HK.out.2.2.1; omega) (by have := HK.out.2.2.1; have := HT.out.2.2.2.1; omega)
                      rw [show decide (wl = wl) = true from decide_eq_true rfl] at cS14
                      have b14 := H13.out.2.trans (b14.mono H13.out.2.size)
                      clear hc14 hn14 hN14 cW13
                      go_wp2_with fail
                      refine cS14.mono ?_
                      rintro e w15 ⟨rfl, q15, rfl⟩
                      go_wp2
                      go_ret
                      exact ⟨rfl, HC.out.2.1 _ (b14.trans (drewN_below _ _ _))⟩
                · subst h8
                  obtain ⟨g8, o8, rfl, hg8, hpl⟩ := hN8.bs.place (by decide)
                  clear hpl
                  have hcut := hN8.bs.drop_ 2
                  have hcc : ¬ c8 = 2 := by omega
                  obtain ⟨hf, hhf⟩ : ∃ hf, signedQ (wl.drop 2) = hf := ⟨_, rfl⟩
                  have hne : hf ≠ n := by rw [← hhf]; exact hhalf.2
                  have hE : unwE 1 (wl.drop 2) = 0 := by
                    unfold unwE
                    rw [if_pos (.inl rfl)]
                    have h9 := hhalf.1
                    rw [show (4 : Nat) / 2 = 2 from rfl] at h9
                    rw [h9, if_pos rfl]
                  have cH := fun W (hW : Below w11.heap.size w11 W) => unwire_f 1 (some ⟨g8, o8 + 2, none⟩) 2 (c8 - 2) (wl.drop 2) W w11.heap.size (hcut.below hW) hW.size (by omega) (by omega) (HC.out.2.2.2.1.below (HC.out.2.1 W (H9.out.2.2.2.1.trans ((bT9.trans (hW.mono bT9.size)).mono H9.out.2.2.2.1.size))) HC.out.2.2.2.1.size)
                  rw [hE, show unwN 1 (wl.drop 2) = hf from hhf, show unwS 1 (wl.drop 2) = ⟨#[]⟩ from rfl, show unwL 1 (wl.drop 2) = [] from rfl, show unwO 1 (wl.drop 2) = 0 from rfl, show unwI 1 (wl.drop 2) = 0 from rfl] at cH
                  have ISA := Lib.hid (fun (x : Vl) (W : World) (b : Nat) (h : x.Is 1 hf ⟨#[]⟩ [] 0 0 b W) => congrArg Vl.val (Vl.is_num h))
                  have hvs : vlSame (.num hf) x [] l = false := by
                    have h1 := H6.out.2.1.k
                    have h2 := H6.out.2.1.n
                    clear HX H6 cWx
                    cases x <;> simp only [Vl.k, Vl.n] at h1 h2 <;> first | (exfalso; omega) | (subst h2; simp only [vlSame, Vl.isB, Vl.eq2]; simpa using hne)
                  have cSz := fun W (hW : Below w9.heap.size w9 W) => same_f (.num hf) x [] l W 0 w9.heap.size (Bs.empty _ _ _) (H9.out.1.below hW) (by simp [Vl.k])
                  rw [hvs] at cSz
                  simp only [HX.out] at cSz
                  generalize hvz : (Vl.num hf).val = vz at *
                  have HQ11 := Lib.hid hn11
                  clear hE hhf hne hvs hcut hhalf hg8 hvz hbig hn11
                  go_wp2_with fail
                  refine (cH w11 (Below.refl _ _)).mono ?_
                  intro e w12 h12
                  obtain ⟨y2, rfl, hy2, b12⟩ := h12.val
                  rw [ISA.out y2 w12 _ hy2]
                  clear h12 hy2 p0
                  go_wp2_with fail
                  refine (cH w12 b12).mono ?_
                  intro e w16 h16
                  obtain ⟨y3, rfl, hy3, b16⟩ := h16.val
                  rw [ISA.out y3 w16 _ hy3]
                  have b16 := b12.trans (b16.mono b12.size)
                  clear h16 hy3 cH b12
                  go_wp2_with fail
                  refine (cSz w16 (bT9.trans (b16.mono bT9.size))).mono ?_
                  rintro e w17 ⟨rfl, b17⟩
                  have b17 := b16.trans (b17.mono b16.size)
                  have hN11 := hN11.up b17
                  have bT9 := bT9.trans (b17.mono bT9.size)
                  have hn11 := HQ11.out
                  clear b17 b16 cSz ISA hN8
                  have bT : Below W0.heap.size W0 w17 := H9.out.2.2.2.1.trans (bT9.mono H9.out.2.2.2.1.size)
                  have hNT := H9.out.2.2.1.up bT9
                  have hxT := H9.out.1.below bT9
                  have HT := Lib.hid (And.intro bT (And.intro hxT (And.intro hN11 (And.intro hn11 bT9.size))))
                  clear bT bT9 hxT hN11 hn11
                  go_wp2_with fail
                  try clear p0
                  go_loopw [116] (fun iv wr => ∃ j : Nat, j ≤ 4 ∧ iv = .int .i64 (j : Int) ∧ Aside (Ov w7.heap.size (some ⟨g8, o8, none⟩) 4 w17 wr)) (fun iv _ => 4 - (intOf iv).toNat)
                  case atStart => exact ⟨0, Nat.zero_le _, rfl, Ov.first hNT.wr⟩
                  case round =>
                    obtain ⟨j, hjm, rfl, hrel⟩ := hrel
                    by_cases hjl : j < 4
                    · have hset := hrel.out
                      obtain ⟨g, og, e8, hg, ht, hcell⟩ := hrel.out.wr (by omega)
                      cases e8
                      obtain ⟨z, hz⟩ := hcell j hjl
                      have hfj := (ht j hjl).2
                      have hjI : (j : Int) < 4 := by omega
                      have HS := Lib.hid (hset.set j hjl)
                      clear hrel ht hcell hset hc8 hcc
                      go_wp2
                      go_roundw
                      case rel => exact ⟨j + 1, by omega, by go_num, (show Aside _ from HS.out _)⟩
                      case measure => simp [intOf]; omega
                    · have hjI : ¬ (j : Int) < 4 := by omega
                      have h13 := hrel.out
                      have hx13 : Bs wr wr.heap.size x.a x.l l := by
                        have h1 : Bs w17 w9.heap.size x.a x.l l := HT.out.2.1
                        have h2 := h13.bs h1 (fun h0 hx0 ad ad' e e' => by
                          have a1 := hNT.fresh ad e
                          have a2 := H6.out.2.1.bs.lt_ hx0 ad' e'
                          have a3 := H67.out
                          omega)
                        exact h2.more (by rw [h13.size]; exact HT.out.2.2.2.2)
                      have h11 : Bs wr wr.heap.size A11 n11 wl := by
                        have h2 := h13.bs HT.out.2.2.1.bs (fun h0 hx0 ad ad' e e' => by
                          have a1 := H9.out.2.2.1.lt h0 ad e
                          have a2 := HT.out.2.2.1.fresh ad' e'
                          have a3 := H10.out.size
                          omega)
                        rw [h13.size]
                        exact h2
                      have b13 : Below W0.heap.size W0 wr := HT.out.1.trans (h13.low.mono H8.out.2.2.2.1)
                      obtain ⟨w13, rfl⟩ : ∃ w13, w13 = wr := ⟨_, rfl⟩
                      have cW13 := cWx w13 hx13
                      have H13 := Lib.hid (And.intro h11 b13)
                      clear hrel h13 hx13 h11 b13 cWx hNT hjm hjl hc8 hcc
                      go_wp2_with fail
                      refine cW13.mono ?_
                      rintro e w14 ⟨A14, n14, c14, rfl, hc14, hn14, hN14, b14⟩
                      have cS14 := same_any A14 A11 n14 c14 n11 c11 wl wl w14 w14.heap.size w13.heap.size hN14.bs (H13.out.1.below b14) (by have := HK.out.2.2.1; omega) (by have := HK.out.2.2.1; have := HT.out.2.2.2.1; omega)
                      rw [show decide (wl = wl) = true from decide_eq_true rfl] at cS14
                      have b14 := H13.out.2.trans (b14.mono H13.out.2.size)
                      clear hc14 hn14 hN14 cW13
                      go_wp2_with fail
                      refine cS14.mono ?_
                      rintro e w15 ⟨rfl, q15, rfl⟩
                      go_wp2
                      go_ret
                      exact ⟨rfl, HC.out.2.1 _ (b14.trans (drewN_below _ _ _))⟩
                · subst h8
                  obtain ⟨g8, o8, rfl, hg8, hpl⟩ := hN8.bs.place (by decide)
                  clear hpl
                  have hcut := hN8.bs.drop_ 4
                  have hcc : ¬ c8 = 4 := by omega
                  obtain ⟨hf, hhf⟩ : ∃ hf, signedQ (wl.drop 4) = hf := ⟨_, rfl⟩
                  have hne : hf ≠ n := by rw [← hhf]; exact hhalf.2
                  have hE : unwE 1 (wl.drop 4) = 0 := by
                    unfold unwE
                    rw [if_pos (.inl rfl)]
                    have h9 := hhalf.1
                    rw [show (8 : Nat) / 2 = 4 from rfl] at h9
                    rw [h9, if_pos rfl]
                  have cH := fun W (hW : Below w11.heap.size w11 W) => unwire_f 1 (some ⟨g8, o8 + 4, none⟩) 4 (c8 - 4) (wl.drop 4) W w11.heap.size (hcut.below hW) hW.size (by omega) (by omega) (HC.out.2.2.2.1.below (HC.out.2.1 W (H9.out.2.2.2.1.trans ((bT9.trans (hW.mono bT9.size)).mono H9.out.2.2.2.1.size))) HC.out.2.2.2.1.size)
                  rw [hE, show unwN 1 (wl.drop 4) = hf from hhf, show unwS 1 (wl.drop 4) = ⟨#[]⟩ from rfl, show unwL 1 (wl.drop 4) = [] from rfl, show unwO 1 (wl.drop 4) = 0 from rfl, show unwI 1 (wl.drop 4) = 0 from rfl] at cH
                  have ISA := Lib.hid (fun (x : Vl) (W : World) (b : Nat) (h : x.Is 1 hf ⟨#[]⟩ [] 0 0 b W) => congrArg Vl.val (Vl.is_num h))
                  have hvs : vlSame (.num hf) x [] l = false := by
                    have h1 := H6.out.2.1.k
                    have h2 := H6.out.2.1.n
                    clear HX H6 cWx
                    cases x <;> simp only [Vl.k, Vl.n] at h1 h2 <;> first | (exfalso; omega) | (subst h2; simp only [vlSame, Vl.isB, Vl.eq2]; simpa using hne)
                  have cSz := fun W (hW : Below w9.heap.size w9 W) => same_f (.num hf) x [] l W 0 w9.heap.size (Bs.empty _ _ _) (H9.out.1.below hW) (by simp [Vl.k])
                  rw [hvs] at cSz
                  simp only [HX.out] at cSz
                  generalize hvz : (Vl.num hf).val = vz at *
                  have HQ11 := Lib.hid hn11
                  clear hE hhf hne hvs hcut hhalf hg8 hvz hbig hn11
                  go_wp2_with fail
                  refine (cH w11 (Below.refl _ _)).mono ?_
                  intro e w12 h12
                  obtain ⟨y2, rfl, hy2, b12⟩ := h12.val
                  rw [ISA.out y2 w12 _ hy2]
                  clear h12 hy2 p0
                  go_wp2_with fail
                  refine (cH w12 b12).mono ?_
                  intro e w16 h16
                  obtain ⟨y3, rfl, hy3, b16⟩ := h16.val
                  rw [ISA.out y3 w16 _ hy3]
                  have b16 := b12.trans (b16.mono b12.size)
                  clear h16 hy3 cH b12
                  go_wp2_with fail
                  refine (cSz w16 (bT9.trans (b16.mono bT9.size))).mono ?_
                  rintro e w17 ⟨rfl, b17⟩
                  have b17 := b16.trans (b17.mono b16.size)
                  have hN11 := hN11.up b17
                  have bT9 := bT9.trans (b17.mono bT9.size)
                  have hn11 := HQ11.out
                  clear b17 b16 cSz ISA hN8
                  have bT : Below W0.heap.size W0 w17 := H9.out.2.2.2.1.trans (bT9.mono H9.out.2.2.2.1.size)
                  have hNT := H9.out.2.2.1.up bT9
                  have hxT := H9.out.1.below bT9
                  have HT := Lib.hid (And.intro bT (And.intro hxT (And.intro hN11 (And.intro hn11 bT9.size))))
                  clear bT bT9 hxT hN11 hn11
                  go_wp2_with fail
                  try clear p0
                  go_loopw [116] (fun iv wr => ∃ j : Nat, j ≤ 8 ∧ iv = .int .i64 (j : Int) ∧ Aside (Ov w7.heap.size (some ⟨g8, o8, none⟩) 8 w17 wr)) (fun iv _ => 8 - (intOf iv).toNat)
                  case atStart => exact ⟨0, Nat.zero_le _, rfl, Ov.first hNT.wr⟩
                  case round =>
                    obtain ⟨j, hjm, rfl, hrel⟩ := hrel
                    by_cases hjl : j < 8
                    · have hset := hrel.out
                      obtain ⟨g, og, e8, hg, ht, hcell⟩ := hrel.out.wr (by omega)
                      cases e8
                      obtain ⟨z, hz⟩ := hcell j hjl
                      have hfj := (ht j hjl).2
                      have hjI : (j : Int) < 8 := by omega
                      have HS := Lib.hid (hset.set j hjl)
                      clear hrel ht hcell hset hc8 hcc
                      go_wp2
                      go_roundw
                      case rel => exact ⟨j + 1, by omega, by go_num, (show Aside _ from HS.out _)⟩
                      case measure => simp [intOf]; omega
                    · have hjI : ¬ (j : Int) < 8 := by omega
                      have h13 := hrel.out
                      have hx13 : Bs wr wr.heap.size x.a x.l l := by
                        have h1 : Bs w17 w9.heap.size x.a x.l l := HT.out.2.1
                        have h2 := h13.bs h1 (fun h0 hx0 ad ad' e e' => by
                          have a1 := hNT.fresh ad e
                          have a2 := H6.out.2.1.bs.lt_ hx0 ad' e'
                          have a3 := H67.out
                          omega)
                        exact h2.more (by rw [h13.size]; exact HT.out.2.2.2.2)
                      have h11 : Bs wr wr.heap.size A11 n11 wl := by
                        have h2 := h13.bs HT.out.2.2.1.bs (fun h0 hx0 ad ad' e e' => by
                          have a1 := H9.out.2.2.1.lt h0 ad e
                          have a2 := HT.out.2.2.1.fresh ad' e'
                          have a3 := H10.out.size
                          omega)
                        rw [h13.size]
                        exact h2
                      have b13 : Below W0.heap.size W0 wr := HT.out.1.trans (h13.low.mono H8.out.2.2.2.1)
                      obtain ⟨w13, rfl⟩ : ∃ w13, w13 = wr := ⟨_, rfl⟩
                      have cW13 := cWx w13 hx13
                      have H13 := Lib.hid (And.intro h11 b13)
                      clear hrel h13 hx13 h11 b13 cWx hNT hjm hjl hc8 hcc
                      go_wp2_with fail
                      refine cW13.mono ?_
                      rintro e w14 ⟨A14, n14, c14, rfl, hc14, hn14, hN14, b14⟩
                      have cS14 := same_any A14 A11 n14 c14 n11 c11 wl wl w14 w14.heap.size w13.heap.size hN14.bs (H13.out.1.below b14) (by have := HK.out.2.2.1; omega) (by have := HK.out.2.2.1; have := HT.out.2.2.2.1; omega)
                      rw [show decide (wl = wl) = true from decide_eq_true rfl] at cS14
                      have b14 := H13.out.2.trans (b14.mono H13.out.2.size)
                      clear hc14 hn14 hN14 cW13
                      go_wp2_with fail
                      refine cS14.mono ?_
                      rintro e w15 ⟨rfl, q15, rfl⟩
                      go_wp2
                      go_ret
                      exact ⟨rfl, HC.out.2.1 _ (b14.trans (drewN_below _ _ _))⟩
              · have hbI : ¬ (1 : Int) < n8 := by omega
                have bT : Below W0.heap.size W0 w11 := H9.out.2.2.2.1.trans (bT9.mono H9.out.2.2.2.1.size)
                have hNT := H9.out.2.2.1.up bT9
                have hxT := H9.out.1.below bT9
                have HT := Lib.hid (And.intro bT (And.intro hxT (And.intro hN11 (And.intro hn11 bT9.size))))
                clear bT bT9 hxT hN11 hn11
                go_wp2_with fail
                try clear p0
                go_loopw [116] (fun iv wr => ∃ j : Nat, j ≤ n8 ∧ iv = .int .i64 (j : Int) ∧ Aside (Ov w7.heap.size A8 n8 w11 wr)) (fun iv _ => n8 - (intOf iv).toNat)
                case atStart => exact ⟨0, Nat.zero_le _, rfl, Ov.first hNT.wr⟩
                case round =>
                  obtain ⟨j, hjm, rfl, hrel⟩ := hrel
                  by_cases hjl : j < n8
                  · have hset := hrel.out
                    obtain ⟨g, og, e8, hg, ht, hcell⟩ := hrel.out.wr (by omega)
                    cases e8
                    obtain ⟨z, hz⟩ := hcell j hjl
                    have hfj := (ht j hjl).2
                    have hjI : (j : Int) < (n8 : Nat) := by omega
                    have hm1 : n8 ≤ 1000000 := by have := H8.out.2.2.2.2.2; have := HK.out.2.2.1; omega
                    have HS := Lib.hid (hset.set j hjl)
                    clear hrel ht hcell hset
                    go_wp2
                    go_roundw
                    case rel => exact ⟨j + 1, by omega, by go_num, (show Aside _ from HS.out _)⟩
                    case measure => simp [intOf]; omega
                  · obtain rfl : n8 = j := by omega
                    have hjI : ¬ ((n8 : Nat) : Int) < (n8 : Nat) := by omega
                    have h13 := hrel.out
                    have hx13 : Bs wr wr.heap.size x.a x.l l := by
                      have h1 : Bs w11 w9.heap.size x.a x.l l := HT.out.2.1
                      have h2 := h13.bs h1 (fun h0 hx0 ad ad' e e' => by
                        have a1 := hNT.fresh ad e
                        have a2 := H6.out.2.1.bs.lt_ hx0 ad' e'
                        have a3 := H67.out
                        omega)
                      exact h2.more (by rw [h13.size]; exact HT.out.2.2.2.2)
                    have h11 : Bs wr wr.heap.size A11 n11 wl := by
                      have h2 := h13.bs HT.out.2.2.1.bs (fun h0 hx0 ad ad' e e' => by
                        have a1 := H9.out.2.2.1.lt h0 ad e
                        have a2 := HT.out.2.2.1.fresh ad' e'
                        have a3 := H10.out.size
                        omega)
                      rw [h13.size]
                      exact h2
                    have b13 : Below W0.heap.size W0 wr := HT.out.1.trans (h13.low.mono H8.out.2.2.2.1)
                    obtain ⟨w13, rfl⟩ : ∃ w13, w13 = wr := ⟨_, rfl⟩
                    have cW13 := cWx w13 hx13
                    have H13 := Lib.hid (And.intro h11 b13)
                    clear hrel h13 hx13 h11 b13 cWx hNT
                    go_wp2_with fail
                    refine cW13.mono ?_
                    rintro e w14 ⟨A14, n14, c14, rfl, hc14, hn14, hN14, b14⟩
                    have cS14 := same_any A14 A11 n14 c14 n11 c11 wl wl w14 w14.heap.size w13.heap.size hN14.bs (H13.out.1.below b14) (by have := HK.out.2.2.1; omega) (by have := HK.out.2.2.1; have := HT.out.2.2.2.1; omega)
                    rw [show decide (wl = wl) = true from decide_eq_true rfl] at cS14
                    have b14 := H13.out.2.trans (b14.mono H13.out.2.size)
                    clear hc14 hn14 hN14 cW13
                    go_wp2_with fail
                    refine cS14.mono ?_
                    rintro e w15 ⟨rfl, q15, rfl⟩
                    go_wp2
                    go_ret
                    exact ⟨rfl, HC.out.2.1 _ (b14.trans (drewN_below _ _ _))⟩
            · have hkb : (k == 1) = false := by simpa using hk1
              have bT : Below W0.heap.size W0 w11 := H9.out.2.2.2.1.trans (bT9.mono H9.out.2.2.2.1.size)
              have hNT := H9.out.2.2.1.up bT9
              have hxT := H9.out.1.below bT9
              have HT := Lib.hid (And.intro bT (And.intro hxT (And.intro hN11 (And.intro hn11 bT9.size))))
              clear bT bT9 hxT hN11 hn11
              go_wp2_with fail
              try clear p0
              go_loopw [116] (fun iv wr => ∃ j : Nat, j ≤ n8 ∧ iv = .int .i64 (j : Int) ∧ Aside (Ov w7.heap.size A8 n8 w11 wr)) (fun iv _ => n8 - (intOf iv).toNat)
              case atStart => exact ⟨0, Nat.zero_le _, rfl, Ov.first hNT.wr⟩
              case round =>
                obtain ⟨j, hjm, rfl, hrel⟩ := hrel
                by_cases hjl : j < n8
                · have hset := hrel.out
                  obtain ⟨g, og, e8, hg, ht, hcell⟩ := hrel.out.wr (by omega)
                  cases e8
                  obtain ⟨z, hz⟩ := hcell j hjl
                  have hfj := (ht j hjl).2
                  have hjI : (j : Int) < (n8 : Nat) := by omega
                  have hm1 : n8 ≤ 1000000 := by have := H8.out.2.2.2.2.2; have := HK.out.2.2.1; omega
                  have HS := Lib.hid (hset.set j hjl)
                  clear hrel ht hcell hset
                  go_wp2
                  go_roundw
                  case rel => exact ⟨j + 1, by omega, by go_num, (show Aside _ from HS.out _)⟩
                  case measure => simp [intOf]; omega
                · obtain rfl : n8 = j := by omega
                  have hjI : ¬ ((n8 : Nat) : Int) < (n8 : Nat) := by omega
                  have h13 := hrel.out
                  have hx13 : Bs wr wr.heap.size x.a x.l l := by
                    have h1 : Bs w11 w9.heap.size x.a x.l l := HT.out.2.1
                    have h2 := h13.bs h1 (fun h0 hx0 ad ad' e e' => by
                      have a1 := hNT.fresh ad e
                      have a2 := H6.out.2.1.bs.lt_ hx0 ad' e'
                      have a3 := H67.out
                      omega)
                    exact h2.more (by rw [h13.size]; exact HT.out.2.2.2.2)
                  have h11 : Bs wr wr.heap.size A11 n11 wl := by
                    have h2 := h13.bs HT.out.2.2.1.bs (fun h0 hx0 ad ad' e e' => by
                      have a1 := H9.out.2.2.1.lt h0 ad e
                      have a2 := HT.out.2.2.1.fresh ad' e'
                      have a3 := H10.out.size
                      omega)
                    rw [h13.size]
                    exact h2
                  have b13 : Below W0.heap.size W0 wr := HT.out.1.trans (h13.low.mono H8.out.2.2.2.1)
                  obtain ⟨w13, rfl⟩ : ∃ w13, w13 = wr := ⟨_, rfl⟩
                  have cW13 := cWx w13 hx13
                  have H13 := Lib.hid (And.intro h11 b13)
                  clear hrel h13 hx13 h11 b13 cWx hNT
                  go_wp2_with fail
                  refine cW13.mono ?_
                  rintro e w14 ⟨A14, n14, c14, rfl, hc14, hn14, hN14, b14⟩
                  have cS14 := same_any A14 A11 n14 c14 n11 c11 wl wl w14 w14.heap.size w13.heap.size hN14.bs (H13.out.1.below b14) (by have := HK.out.2.2.1; omega) (by have := HK.out.2.2.1; have := HT.out.2.2.2.1; omega)
                  rw [show decide (wl = wl) = true from decide_eq_true rfl] at cS14
                  have b14 := H13.out.2.trans (b14.mono H13.out.2.size)
                  clear hc14 hn14 hN14 cW13
                  go_wp2_with fail
                  refine cS14.mono ?_
                  rintro e w15 ⟨rfl, q15, rfl⟩
                  go_wp2
                  go_ret
                  exact ⟨rfl, HC.out.2.1 _ (b14.trans (drewN_below _ _ _))⟩
    · have cO6 := cO5.mono fun e w' h => OfRet.fails h he
      refine cO6.mono ?_
      rintro e w6 ⟨rfl, b6⟩
      have f1 : (er != 0) = true := by simpa using he
      have hbw := HC.out.2.1 w6 (H5.out.2.2.1.trans (b6.mono H5.out.2.2.1.size))
      clear cO5 cO6 q3 he b6
      go_wp2
      go_ret
      exact ⟨rfl, hbw⟩
  · have hsf : shortB s.size m = false := by simpa using hsh
    rw [hsf] at hSh
    clear hsf hsh
    go_enter Tryd.func12, Tryd.ntmps12
    go_wp2_with fail
    rw [HW.out]
    refine (cA _ H0.out).mono ?_
    rintro e w1 ⟨rfl, b1⟩
    have h1 := HC.out.1 w1 b1
    have p0 := h1 0 _ rfl
    have p1 := h1 1 _ rfl
    have p2 := h1 2 _ rfl
    have p3 := h1 3 _ rfl
    have p4 := h1 4 _ rfl
    have p5 := h1 5 _ rfl
    simp only [Nat.zero_add] at p0 p1 p2 p3 p4 p5
    clear h1
    go_wp2_with fail
    refine (hSh w1).mono ?_
    rintro e w2 ⟨rfl, b2⟩
    have b2 := b1.trans (b2.mono b1.size)
    clear p0 p1 p2 p3 p4 p5 b1 hSh cA
    go_wp2
    go_ret
    exact ⟨rfl, HC.out.2.1 _ b2⟩
end Go.Proofs.YtoelmkcgdoabeaaDoor
