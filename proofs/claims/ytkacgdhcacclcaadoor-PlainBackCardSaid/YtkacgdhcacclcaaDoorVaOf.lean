/-
  The value of a struct: Of.
-/
import Derived.Test.YtkacgdhcacclcaaDoorVaFlat
import Derived.Test.YtkacgdhcacclcaaDoorVaClone
namespace Go.Proofs.YtkacgdhcacclcaaDoor
open Go.RowKit
set_option maxRecDepth 100000
set_option maxRecDepth 100000
set_option linter.unusedVariables false
theorem RetOwn.fresh_ {e5 : TypeId} {l : List UInt8} {w w' : World} {e : Ending} (h : RetOwn e5 l w e w') :
    ∃ A c, e = .returned (.slice A l.length c) ∧ l.length ≤ c ∧ (∀ ad, A = some ad → w.heap.size ≤ ad.block) ∧ Bs w' w'.heap.size A l.length l ∧ Below w.heap.size w w' := by
  obtain ⟨v, rfl, h1, h2⟩ := h
  have hge := own_ge h1
  obtain ⟨A, c, rfl, hc, hb⟩ := Bs.of_own h1
  exact ⟨A, c, rfl, hc, fun ad e => hge _ (by subst e; rfl), hb, h2⟩
theorem sclone_f (s : ByteArray) (w : World) (hs : s.size ≤ 1000000) : Calls Tryd.prog 30 #[.string s] w fun e w' => e = .returned (.string s) ∧ Below w.heap.size w w' := by
  have c := Any.stringslite_Clone Tryd.laysM316 s w (by omega)
  go_enter Tryd.func30, Tryd.ntmps30
  go_wp2_with (go_at_call 57; refine c.mono ?_; rintro e w1 ⟨rfl, hb⟩)
  go_ret
  exact ⟨rfl, hb⟩
/-- x holds what is told, its bytes are none below block b. -/
structure Vl.Is (x : Vl) (k n : Int) (s : ByteArray) (l : List UInt8) (o i : Int) (b : Nat) (w : World) : Prop where
  k : x.k = k
  n : x.n = n
  s : x.s = s
  o : x.o = o
  i : x.i = i
  cap : x.l ≤ x.c
  fresh : ∀ ad, x.a = some ad → b ≤ ad.block
  bs : Bs w w.heap.size x.a x.l l
def OfRet (k n : Int) (s : ByteArray) (l : List UInt8) (o i : Int) (er : Int) (w : World) (e : Ending) (w' : World) : Prop :=
  Below w.heap.size w w' ∧ ((er ≠ 0 ∧ e = .returned (.tuple #[.nilIface, .int .i64 er])) ∨ (er = 0 ∧ ∃ x : Vl, e = .returned (.tuple #[x.val, .int .i64 0]) ∧ x.Is k n s l o i w.heap.size w'))
theorem OfRet.err {k n : Int} {s : ByteArray} {l : List UInt8} {o i er : Int} {w w' : World} (h : er ≠ 0) (hb : Below w.heap.size w w') : OfRet k n s l o i er w (.returned (.tuple #[.nilIface, .int .i64 er])) w' := ⟨hb, .inl ⟨h, rfl⟩⟩
theorem OfRet.ok {k n : Int} {s : ByteArray} {l : List UInt8} {o i : Int} {w w' : World} (x : Vl) (hx : x.Is k n s l o i w.heap.size w') (hb : Below w.heap.size w w') : OfRet k n s l o i 0 w (.returned (.tuple #[x.val, .int .i64 0])) w' := ⟨hb, .inr ⟨rfl, x, rfl, hx⟩⟩
def ofE (k n : Int) (sl ok bl : Nat) (o i : Int) : Int := if k < 1 ∨ 6 < k then 70 else if rightB k n sl ok bl o i then 0 else 1
theorem bs_none {w : World} {B : Nat} {A : Option Addr} {bl : Nat} {l : List UInt8} (h : Bs w B A bl l) (h0 : bl = 0) (w2 : World) (B2 : Nat) (A2 : Option Addr) : Bs w2 B2 A2 0 l := by
  obtain rfl : l = [] := List.eq_nil_of_length_eq_zero (by rw [h.len, h0])
  exact Bs.empty _ _ _
set_option maxHeartbeats 8000000 in
theorem of_f (k n : Int) (s : ByteArray) (bA : Option Addr) (bl bc : Nat) (o i : Int) (l : List UInt8) (w : World) (B : Nat) (hbs : Bs w B bA bl l) (hB : B ≤ w.heap.size) (hs : s.size ≤ 1000000) (hl : bl ≤ 1000000) (hT : Tabs w) :
    Calls Tryd.prog 23 #[.agg #[.int .i64 k, .int .i64 n, .string s, .slice bA bl bc, .int .i64 o, .int .i64 i]] w (OfRet k n s l o i (ofE k n s.size (okN (runesQ s.data.toList)) bl o i) w) := by
  unfold ofE
  by_cases hk : k < 1 ∨ 6 < k
  · rw [if_pos hk]
    clear hT hbs hB
    rcases hk with hk | hk
    · go_enter Tryd.func23, Tryd.ntmps23
      go_wp2
      go_ret2
      exact OfRet.err (by decide) (alloc_below w _)
    · have hk1 : ¬ k < 1 := by omega
      go_enter Tryd.func23, Tryd.ntmps23
      go_wp2
      go_ret2
      exact OfRet.err (by decide) (alloc_below w _)
  have cR := fun W hW => right_f k n s bA bl bc o i W hs hW
  rw [if_neg hk]
  obtain ⟨R, hR⟩ : ∃ R, rightB k n s.size (okN (runesQ s.data.toList)) bl o i = R := ⟨_, rfl⟩
  rw [hR] at cR ⊢
  have hk1 : ¬ k < 1 := by omega
  have hk6 : ¬ 6 < k := by omega
  have hTs := hT.size
  cases R with
  | false =>
    clear hR hbs hB
    rw [if_neg (by decide)]
    go_enter Tryd.func23, Tryd.ntmps23
    go_wp2_with fail
    refine (cR _ (hT.below (alloc_below w _) (by omega))).mono ?_
    rintro e w1 ⟨rfl, hb⟩
    have hb0 := (alloc_below w _).trans (hb.mono (by rw [alloc_size]; omega))
    clear hb
    go_wp2
    go_ret2
    exact OfRet.err (by decide) hb0
  | true =>
    rw [if_pos rfl]
    have hr := of_decide_eq_true hR
    clear hR
    obtain ⟨q, hq⟩ : ∃ q, okN (runesQ s.data.toList) = q := ⟨_, rfl⟩
    rw [hq] at hr
    clear hq
    rcases (by omega : k = 1 ∨ k = 2 ∨ k = 3 ∨ k = 4 ∨ k = 5 ∨ k = 6) with rfl | rfl | rfl | rfl | rfl | rfl
    · obtain rfl : s = ⟨#[]⟩ := str_nil (by omega)
      obtain rfl : o = 0 := by omega
      obtain rfl : i = 0 := by omega
      have HB := Lib.hid (bs_none hbs (by omega))
      clear hr hbs
      go_enter Tryd.func23, Tryd.ntmps23
      go_wp2_with fail
      refine (cR _ (hT.below (alloc_below w _) (by omega))).mono ?_
      rintro e w1 ⟨rfl, hb⟩
      have hb0 := (alloc_below w _).trans (hb.mono (by rw [alloc_size]; omega))
      have hc1 := fun o => hb.cell (p := ⟨w.heap.size, o, none⟩) (by rw [alloc_size]; exact Nat.lt_succ_self _)
      clear hb
      go_wp2
      go_ret2
      exact OfRet.ok (.num n) ⟨rfl, rfl, rfl, rfl, rfl, Nat.le_refl _, (fun ad e => by cases e), HB.out _ _ _⟩ hb0
    · obtain rfl : s = ⟨#[]⟩ := str_nil (by omega)
      obtain rfl : o = 0 := by omega
      obtain rfl : i = 0 := by omega
      have HB := Lib.hid (bs_none hbs (by omega))
      rcases (by omega : n = 0 ∨ n = 1) with rfl | rfl
      · clear hr hbs
        go_enter Tryd.func23, Tryd.ntmps23
        go_wp2_with fail
        refine (cR _ (hT.below (alloc_below w _) (by omega))).mono ?_
        rintro e w1 ⟨rfl, hb⟩
        have hb0 := (alloc_below w _).trans (hb.mono (by rw [alloc_size]; omega))
        have hc1 := fun o => hb.cell (p := ⟨w.heap.size, o, none⟩) (by rw [alloc_size]; exact Nat.lt_succ_self _)
        clear hb
        go_wp2
        go_ret2
        exact OfRet.ok (.bool false) ⟨rfl, rfl, rfl, rfl, rfl, Nat.le_refl _, (fun ad e => by cases e), HB.out _ _ _⟩ hb0
      · clear hr hbs
        go_enter Tryd.func23, Tryd.ntmps23
        go_wp2_with fail
        refine (cR _ (hT.below (alloc_below w _) (by omega))).mono ?_
        rintro e w1 ⟨rfl, hb⟩
        have hb0 := (alloc_below w _).trans (hb.mono (by rw [alloc_size]; omega))
        have hc1 := fun o => hb.cell (p := ⟨w.heap.size, o, none⟩) (by rw [alloc_size]; exact Nat.lt_succ_self _)
        clear hb
        go_wp2
        go_ret2
        exact OfRet.ok (.bool true) ⟨rfl, rfl, rfl, rfl, rfl, Nat.le_refl _, (fun ad e => by cases e), HB.out _ _ _⟩ hb0
    · obtain rfl : n = 0 := by omega
      obtain rfl : o = 0 := by omega
      obtain rfl : i = 0 := by omega
      have HB := Lib.hid (bs_none hbs (by omega))
      have cS := fun W => sclone_f s W hs
      clear hr hbs
      go_enter Tryd.func23, Tryd.ntmps23
      go_wp2_with fail
      refine (cR _ (hT.below (alloc_below w _) (by omega))).mono ?_
      rintro e w1 ⟨rfl, hb⟩
      have hb0 := (alloc_below w _).trans (hb.mono (by rw [alloc_size]; omega))
      have hc1 := fun o => hb.cell (p := ⟨w.heap.size, o, none⟩) (by rw [alloc_size]; exact Nat.lt_succ_self _)
      clear hb
      go_wp2_with (go_at_call 30; refine (cS _).mono ?_; rintro e w2 ⟨rfl, hb2⟩)
      go_ret2
      exact OfRet.ok (.text s) ⟨rfl, rfl, rfl, rfl, rfl, Nat.le_refl _, (fun ad e => by cases e), HB.out _ _ _⟩ (hb0.trans (hb2.mono hb0.size))
    · obtain rfl : n = 0 := by omega
      obtain rfl : s = ⟨#[]⟩ := str_nil (by omega)
      obtain rfl : o = 0 := by omega
      obtain rfl : i = 0 := by omega
      have hbs1 := fun W (h : Below w.heap.size w W) => hbs.below' h hB
      have HB := Lib.hid hbs1
      have hlen := Lib.hid hbs.len
      clear hr hbs hbs1
      go_enter Tryd.func23, Tryd.ntmps23
      go_wp2_with fail
      refine (cR _ (hT.below (alloc_below w _) (by omega))).mono ?_
      rintro e w1 ⟨rfl, hb⟩
      have hb0 := (alloc_below w _).trans (hb.mono (by rw [alloc_size]; omega))
      have hc1 := fun o => hb.cell (p := ⟨w.heap.size, o, none⟩) (by rw [alloc_size]; exact Nat.lt_succ_self _)
      clear hb
      have cC := clone_f bA bl bc l w1 B (HB.out _ hb0) (by have := hb0.size; omega) (by omega)
      go_wp2_with (go_at_call 49; refine cC.mono ?_; intro e w2 hr2; obtain ⟨A2, c2, rfl, hc2, hf2, hbs2, hb2⟩ := hr2.fresh_; clear hr2; obtain ⟨N, hN⟩ : ∃ N, l.length = N := ⟨_, rfl⟩; rw [hN] at hc2 hbs2; have HN := Lib.hid hN; simp only [hN]; clear hN)
      go_ret2
      have hsz := hb0.size
      exact OfRet.ok (.bytes A2 N c2) ⟨rfl, rfl, rfl, rfl, rfl, hc2, fun ad e => Nat.le_trans hsz (hf2 ad e), hbs2⟩ (hb0.trans (hb2.mono hb0.size))
    · obtain rfl : s = ⟨#[]⟩ := str_nil (by omega)
      obtain rfl : o = 0 := by omega
      obtain rfl : i = 0 := by omega
      have HB := Lib.hid (bs_none hbs (by omega))
      clear hr hbs
      go_enter Tryd.func23, Tryd.ntmps23
      go_wp2_with fail
      refine (cR _ (hT.below (alloc_below w _) (by omega))).mono ?_
      rintro e w1 ⟨rfl, hb⟩
      have hb0 := (alloc_below w _).trans (hb.mono (by rw [alloc_size]; omega))
      have hc1 := fun o => hb.cell (p := ⟨w.heap.size, o, none⟩) (by rw [alloc_size]; exact Nat.lt_succ_self _)
      clear hb
      go_wp2
      go_ret2
      exact OfRet.ok (.time n) ⟨rfl, rfl, rfl, rfl, rfl, Nat.le_refl _, (fun ad e => by cases e), HB.out _ _ _⟩ hb0
    · obtain rfl : n = 0 := by omega
      obtain rfl : s = ⟨#[]⟩ := str_nil (by omega)
      have HB := Lib.hid (bs_none hbs (by omega))
      clear hr hbs
      go_enter Tryd.func23, Tryd.ntmps23
      go_wp2_with fail
      refine (cR _ (hT.below (alloc_below w _) (by omega))).mono ?_
      rintro e w1 ⟨rfl, hb⟩
      have hb0 := (alloc_below w _).trans (hb.mono (by rw [alloc_size]; omega))
      have hc1 := fun o => hb.cell (p := ⟨w.heap.size, o, none⟩) (by rw [alloc_size]; exact Nat.lt_succ_self _)
      clear hb
      go_wp2
      go_ret2
      exact OfRet.ok (.link o i) ⟨rfl, rfl, rfl, rfl, rfl, Nat.le_refl _, (fun ad e => by cases e), HB.out _ _ _⟩ hb0
end Go.Proofs.YtkacgdhcacclcaaDoor
