/-
  A body that is put together: the next block.
-/
import Derived.Test.YtdgihhepmmkkpaaBlkJoin
namespace Go.Proofs.Ytdgihhepmmkkpaa
open Go.RowKit
set_option maxRecDepth 100000
set_option linter.unusedVariables false
def jput (most : Nat) (l : List UInt8) (wh : Bool) (n z : Int) (m : Bool) (d : List UInt8) : (List UInt8 × Bool) × Bool × Int :=
  if chkE most (if n = 0 then [] else l) (if n = 0 then false else wh) n z m d.length = 0 then (((if n = 0 then [] else l) ++ d, !m), !m, 0) else (([], false), false, chkE most (if n = 0 then [] else l) (if n = 0 then false else wh) n z m d.length)
theorem jn_set {w : World} {jb most : Nat} {v v' : Value} {l' : List UInt8} {wh : Bool} (hb : w.heap[jb]? = some (.cells #[.int .i64 (most : Int), v, .bool wh] 93)) (hr : w.ownsRow (jb + 1) 5 1 v' l'.length (U8 l')) (hl : l'.length ≤ most) (hm : most ≤ 1048576) : JnAt (w.setCell ⟨jb, 1, none⟩ v') jb most v' l' wh :=
  ⟨heap_setCell_same w jb 1 _ 93 _ hb, row_kept hr (fun g cs hg _ => Below.heap_setCell w ⟨jb, 1, none⟩ v' g (fun e => by
    have h1 := own_ge hr g hg
    have h2 : g = jb := e
    omega)), hl, hm⟩
theorem Kp.weak {jb : Nat} {row : Option Nat} {a b : World} (h : Kp jb none a b) : Kp jb row a b := ⟨h.os, h.tape, h.output, h.size, fun k hk hj _ => h.block k hk hj (by simp)⟩
theorem range_blk3 {w : World} {b : Nat} {cs : Array Value} {t : TypeId} {vs : List Value} (h : w.heap[b]? = some (.cells cs t)) (e : cs.toList = vs) : w.rangeAt b 0 vs := by
  intro j v hv
  rw [Nat.zero_add, cell_of_row _ _ _ _ _ _ h, ← hv, ← e]
  exact (Array.getElem?_toList ..).symm
theorem chkE_ok {most : Nat} {l : List UInt8} {wh : Bool} {n z : Int} {m : Bool} {k : Nat} (h : chkE most l wh n z m k = 0) (hl : l.length ≤ most) : l.length + k ≤ most ∧ rightB n z = true ∧ wh = false ∧ n * z = (l.length : Int) ∧ (k : Int) ≤ z ∧ (m = true → (k : Int) = z) := by
  unfold chkE at h
  split at h
  · omega
  · rename_i hr
    split at h
    · omega
    · rename_i h1
      split at h
      · omega
      · rename_i h2
        split at h
        · omega
        · refine ⟨by omega, by simpa using hr, ?_, ?_, by omega, fun e => ?_⟩
          · cases wh with
            | true => exact absurd (.inl rfl) h1
            | false => rfl
          · exact Classical.byContradiction fun e => h1 (.inr e)
          · have q1 : ¬ z < (k : Int) := fun q => h2 (.inl q)
            have q2 : ¬ (k : Int) < z := fun q => h2 (.inr ⟨e, q⟩)
            omega
def PutRet (jb most : Nat) (v : Value) (r : (List UInt8 × Bool) × Bool × Int) (w : World) (e : Ending) (w' : World) : Prop :=
  ∃ v', e = .returned (.tuple #[.bool r.2.1, .int .i64 r.2.2]) ∧ JnAt w' jb most v' r.1.1 r.1.2 ∧ Kp jb v.ownBlock w w' ∧ ∀ g, v'.ownBlock = some g → v.ownBlock = some g ∨ w.heap.size ≤ g
set_option maxHeartbeats 8000000 in
theorem jput_f (jb most : Nat) (v : Value) (l : List UInt8) (wh : Bool) (w : World) (h : JnAt w jb most v l wh) (n z : Int) (m : Bool) (A2 : Option Addr) (k c2 : Nat) (d : List UInt8) (hd : Bs w w.heap.size A2 k d) (hk : (k : Int) ≤ 1099511627776) :
    Calls Try.prog 24 #[.pointer (some ⟨jb, 0, none⟩), .agg #[.int .i64 n, .bool m, .int .i64 z], .slice A2 k c2] w (PutRet jb most v (jput most l wh n z m d) w) := by
  obtain ⟨i0, hi0, hz0, hz1, hz2⟩ := info_parts info_u8
  have hlt := h.lt
  have hdl := hd.len
  have hmx := h.max
  have hll := h.len
  obtain ⟨l0, hl0⟩ : ∃ l0, (if n = 0 then [] else l) = l0 := ⟨_, rfl⟩
  obtain ⟨wh0, hw0⟩ : ∃ wh0, (if n = 0 then false else wh) = wh0 := ⟨_, rfl⟩
  obtain ⟨E, hE⟩ : ∃ E, chkE most l0 wh0 n z m k = E := ⟨_, rfl⟩
  have hl0m : l0.length ≤ most := by
    rw [← hl0]
    split
    · exact Nat.zero_le _
    · exact hll
  have hR : jput most l wh n z m d = if E = 0 then ((l0 ++ d, !m), !m, 0) else (([], false), false, E) := by unfold jput; rw [hl0, hw0, hdl, hE]
  obtain ⟨R, hRR⟩ : ∃ R, jput most l wh n z m d = R := ⟨_, rfl⟩
  rw [hRR] at hR ⊢
  have hqq : E = 0 → l0.length + k ≤ most := fun e => (chkE_ok (hE.trans e) hl0m).1
  have HV := Lib.hid fun g (e : v.ownBlock = some g) => (h.row.lt g e).2
  have hnj : ¬ jb = w.heap.size := by omega
  have hnj' : ¬ w.heap.size = jb := by omega
  have hx0 := heap_alloc_new w (.cells #[.int .i64 n, .bool m, .int .i64 z] 37)
  have hj0 := h.below (alloc_below w (.cells #[.int .i64 n, .bool m, .int .i64 z] 37))
  have hd0 := (hd.below (alloc_below w (.cells #[.int .i64 n, .bool m, .int .i64 z] 37)))
  have HH := Lib.hid (And.intro hR (And.intro hqq (And.intro hx0 (And.intro hj0 (And.intro hd0 (And.intro hE hdl))))))
  have HM := Lib.hid (And.intro hmx (And.intro hl0m (And.intro hl0 hw0)))
  clear hRR hR hqq hx0 hj0 hd0 hE h hd hdl hmx hll hl0m
  by_cases hn : n = 0
  · subst hn
    rw [if_pos rfl] at hl0 hw0
    subst hl0 hw0
    clear hlt
    have hVL : Hid (∀ g, (Value.slice none 0 0).ownBlock = some g → v.ownBlock = some g ∧ g < w.heap.size) := Lib.hid fun g e => by cases e
    go_enter Try.func24, Try.ntmps24
    go_wp2_with fail
    refine calls_at_world (F := fun W => W = w.alloc (.cells #[.int .i64 0, .bool m, .int .i64 z] 37)) rfl fun W0 hW0 => ?_
    have hs0 : W0.heap.size = w.heap.size + 1 := by rw [hW0]; exact alloc_size _ _
    have q0 := HH.out.2.2
    rw [← hW0] at q0
    refine (jdrop_f jb most v l wh W0 q0.2.1).mono ?_
    rintro e w1 ⟨rfl, j1, k1⟩
    have k1' : Kp jb none w w1 := (Kp.of (hW0 ▸ alloc_below w _)).trans k1 (fun g e => by cases e)
    have hx1 := (k1.block w.heap.size (by omega) hnj' (by simp)).trans q0.1
    have hd1 := q0.2.2.1.kp k1 (fun hp a ha => ⟨q0.2.1.off q0.2.2.1 hp a ha, by simp⟩) (by omega)
    have hs1 := k1.size
    have H1 := Lib.hid (And.intro j1 (And.intro (k1'.weak (row := v.ownBlock)) (And.intro hx1 (And.intro hd1 (show w.heap.size + 1 ≤ w1.heap.size by omega)))))
    have r1 := range_blk3 hx1 rfl
    obtain ⟨x0, x1, x2⟩ : w1.cell? ⟨w.heap.size, 0, none⟩ = some (.int .i64 0) ∧ w1.cell? ⟨w.heap.size, 1, none⟩ = some (.bool m) ∧ w1.cell? ⟨w.heap.size, 2, none⟩ = some (.int .i64 z) := ⟨r1 0 _ rfl, r1 1 _ rfl, r1 2 _ rfl⟩
    clear hW0 q0 j1 k1 k1' hx1 hd1 hs0 hs1
    go_wp2_with (refine wpList_load_mid rfl 37 (.tmp 4) rfl w.heap.size 0 rfl [.int .i64 0, .bool m, .int .i64 z] _ r1 Try.underlying37 rfl size_blk ?_)
    have hck := jcheck_f jb most _ _ _ w1 H1.out.1 0 z m A2 k c2 hk
    rw [HH.out.2.2.2.2.2.1] at hck
    refine hck.mono ?_
    rintro e w2 ⟨rfl, b2⟩
    have j2 := H1.out.1.below b2
    have hx2 := (b2.block w.heap.size (by have := H1.out.2.2.2.2; omega)).trans H1.out.2.2.1
    have hd2 := (H1.out.2.2.2.1.below' b2 (by have := H1.out.2.2.2.2; omega)).more (Nat.le_trans (show w.heap.size ≤ w1.heap.size by have := H1.out.2.2.2.2; omega) b2.size)
    have hs2 := b2.size
    have H2 := Lib.hid (And.intro j2 (And.intro (H1.out.2.1.below b2 (by have := H1.out.2.2.2.2; omega)) (And.intro hx2 (And.intro hd2 (show w.heap.size + 1 ≤ w2.heap.size by have := H1.out.2.2.2.2; omega)))))
    have r2 := range_blk3 hx2 rfl
    obtain ⟨y0, y1, y2⟩ : w2.cell? ⟨w.heap.size, 0, none⟩ = some (.int .i64 0) ∧ w2.cell? ⟨w.heap.size, 1, none⟩ = some (.bool m) ∧ w2.cell? ⟨w.heap.size, 2, none⟩ = some (.int .i64 z) := ⟨r2 0 _ rfl, r2 1 _ rfl, r2 2 _ rfl⟩
    clear j2 b2 hx2 hd2 hs2 hck r1 r2 x0 x1 x2
    by_cases hE0 : E = 0
    · subst hE0
      have d0 := H2.out.1.cells
      obtain ⟨e0, e1, e2⟩ := d0
      obtain ⟨q, hq⟩ : ∃ q, ([] : List UInt8).length = q := ⟨_, rfl⟩

      have hVQ := hVL
      have hsum : ([] : List UInt8).length + k ≤ most := HH.out.2.1 rfl
      have hq0 : q ≤ 1048576 := by have := HM.out.1; omega
      have HS := Lib.hid hsum
      have hown := H2.out.1.row
      rw [hq] at hown
      have HO := Lib.hid (And.intro hown hq)
      have hjs : jb + 1 ≤ w2.heap.size := by have := H2.out.1.lt; omega
      clear hsum hq hown
      cases m with
      | true =>
        go_wp2_with (at_builtin
                     refine wpList_append_bs_a2 _ rfl (.tmp 27) (.tmp 28) 22 rfl (jb + 1) 5 i0 Try.underlying22 hi0 hz0 hz1 hz2 _ q _ rfl HO.out.1 _ A2 k c2 d rfl H2.out.2.2.2.1 (by omega) hjs ?_
                     intro v3 w3 hown3 hg3 hat3
                     have hbj := (hg3.block jb H2.out.1.lt (fun e => by have := own_ge HO.out.1 jb e.symm; omega)).trans H2.out.1.blk
                     have hxj := (hg3.block w.heap.size (by have := H2.out.2.2.2.2; omega) (fun e => by
                        have := (hVQ.out w.heap.size e.symm).2
                        omega)).trans H2.out.2.2.1
                     have hz3 := (World.cell?_of_block (w := w2) (a := ⟨jb, 1, none⟩) (hg3.block jb H2.out.1.lt (fun e => by have := own_ge HO.out.1 jb e.symm; omega))).trans e1
                     have hz4 := (World.cell?_of_block (w := w2) (a := ⟨jb, 2, none⟩) (hg3.block jb H2.out.1.lt (fun e => by have := own_ge HO.out.1 jb e.symm; omega))).trans e2
                     have fz3 : w3.frozen? ⟨jb, 1, none⟩ = false := by simp [World.frozen?, hbj]
                     have fz4 : w3.frozen? ⟨jb, 2, none⟩ = false := by simp [World.frozen?, hbj]
                     have hx3 : w3.cell? ⟨w.heap.size, 1, none⟩ = some (.bool true) := by rw [cell_of_row _ _ _ _ _ _ hxj]; rfl
                     have hown4 : w3.ownsRow (jb + 1) 5 1 v3 (([] : List UInt8) ++ d).length (U8 (([] : List UInt8) ++ d)) := by rw [List.length_append, HO.out.2, HH.out.2.2.2.2.2.2, U8_append]; exact hown3
                     have hj4 := (jn_set hbj hown4 (by rw [List.length_append, HH.out.2.2.2.2.2.2]; exact HS.out) HM.out.1).setW false
                     have hk4 := ((H2.out.2.1.grown hg3 (fun g e => .inl (hVQ.out g e).1)).setCell 1 v3).setCell 2 (.bool false)
                     have H3 := Lib.hid (And.intro hj4 (And.intro hk4 hat3))
                     have hown5 : w3.ownsRow (jb + 1) 5 1 v3 (q + k) (U8 (([] : List UInt8) ++ d)) := by rw [U8_append]; exact hown3
                     obtain ⟨vA3, vc3, rfl, _, _⟩ := Bs.of_own hown5
                     clear hown3 hown5 hown4 hj4 hk4 hg3 hat3 hbj hxj e0 e1 e2 y0 y1 y2)
        go_ret2
        rw [HH.out.1, if_pos trivial]
        refine ⟨.slice vA3 (q + k) vc3, rfl, H3.out.1, H3.out.2.1, ?_⟩
        · intro g hg
          rcases H3.out.2.2 with e | e
          · rw [e] at hg
            exact .inl (hVQ.out g hg).1
          · rw [e] at hg
            injection hg with hg
            exact .inr (by have := H2.out.2.2.2.2; omega)
      | false =>
        go_wp2_with (at_builtin
                     refine wpList_append_bs_a2 _ rfl (.tmp 27) (.tmp 28) 22 rfl (jb + 1) 5 i0 Try.underlying22 hi0 hz0 hz1 hz2 _ q _ rfl HO.out.1 _ A2 k c2 d rfl H2.out.2.2.2.1 (by omega) hjs ?_
                     intro v3 w3 hown3 hg3 hat3
                     have hbj := (hg3.block jb H2.out.1.lt (fun e => by have := own_ge HO.out.1 jb e.symm; omega)).trans H2.out.1.blk
                     have hxj := (hg3.block w.heap.size (by have := H2.out.2.2.2.2; omega) (fun e => by
                        have := (hVQ.out w.heap.size e.symm).2
                        omega)).trans H2.out.2.2.1
                     have hz3 := (World.cell?_of_block (w := w2) (a := ⟨jb, 1, none⟩) (hg3.block jb H2.out.1.lt (fun e => by have := own_ge HO.out.1 jb e.symm; omega))).trans e1
                     have hz4 := (World.cell?_of_block (w := w2) (a := ⟨jb, 2, none⟩) (hg3.block jb H2.out.1.lt (fun e => by have := own_ge HO.out.1 jb e.symm; omega))).trans e2
                     have fz3 : w3.frozen? ⟨jb, 1, none⟩ = false := by simp [World.frozen?, hbj]
                     have fz4 : w3.frozen? ⟨jb, 2, none⟩ = false := by simp [World.frozen?, hbj]
                     have hx3 : w3.cell? ⟨w.heap.size, 1, none⟩ = some (.bool false) := by rw [cell_of_row _ _ _ _ _ _ hxj]; rfl
                     have hown4 : w3.ownsRow (jb + 1) 5 1 v3 (([] : List UInt8) ++ d).length (U8 (([] : List UInt8) ++ d)) := by rw [List.length_append, HO.out.2, HH.out.2.2.2.2.2.2, U8_append]; exact hown3
                     have hj4 := (jn_set hbj hown4 (by rw [List.length_append, HH.out.2.2.2.2.2.2]; exact HS.out) HM.out.1).setW true
                     have hk4 := ((H2.out.2.1.grown hg3 (fun g e => .inl (hVQ.out g e).1)).setCell 1 v3).setCell 2 (.bool true)
                     have H3 := Lib.hid (And.intro hj4 (And.intro hk4 hat3))
                     have hown5 : w3.ownsRow (jb + 1) 5 1 v3 (q + k) (U8 (([] : List UInt8) ++ d)) := by rw [U8_append]; exact hown3
                     obtain ⟨vA3, vc3, rfl, _, _⟩ := Bs.of_own hown5
                     clear hown3 hown5 hown4 hj4 hk4 hg3 hat3 hbj hxj e0 e1 e2 y0 y1 y2)
        go_ret2
        rw [HH.out.1, if_pos trivial]
        refine ⟨.slice vA3 (q + k) vc3, rfl, H3.out.1, H3.out.2.1, ?_⟩
        · intro g hg
          rcases H3.out.2.2 with e | e
          · rw [e] at hg
            exact .inl (hVQ.out g hg).1
          · rw [e] at hg
            injection hg with hg
            exact .inr (by have := H2.out.2.2.2.2; omega)
    · have hEb : (E != 0) = true := bne_iff_ne.2 hE0
      have HE := Lib.hid hE0
      clear hE0
      go_wp2_with fail
      refine (jdrop_f jb most _ _ _ w2 H2.out.1).mono ?_
      rintro e w3 ⟨rfl, j3, k3⟩
      have H3 := Lib.hid (And.intro j3 (H2.out.2.1.trans k3 (fun g e => by cases e)))
      clear j3 k3 y0 y1 y2
      go_wp2
      go_ret2
      rw [HH.out.1, if_neg HE.out]
      exact ⟨.slice none 0 0, rfl, H3.out.1, H3.out.2, fun g hg => by cases hg⟩
  · rw [if_neg hn] at hl0 hw0
    subst hl0 hw0
    have hn0 : (n == 0) = false := beq_eq_false_iff_ne.2 hn
    clear hlt
    have hVL : Hid (∀ g, v.ownBlock = some g → v.ownBlock = some g ∧ g < w.heap.size) := Lib.hid fun g e => ⟨e, HV.out g e⟩
    obtain ⟨vA, vc, rfl, _, _⟩ := HH.out.2.2.2.1.open_
    have r0 := range_box w #[.int .i64 n, .bool m, .int .i64 z] 37 rfl
    go_enter Try.func24, Try.ntmps24
    go_wp2_with (refine wpList_load_mid rfl 37 (.tmp 4) rfl w.heap.size 0 rfl [.int .i64 n, .bool m, .int .i64 z] _ r0 Try.underlying37 rfl size_blk ?_)
    refine calls_at_world (F := fun W => W = w.alloc (.cells #[.int .i64 n, .bool m, .int .i64 z] 37)) rfl fun w1 hW0 => ?_
    have hs0 : w1.heap.size = w.heap.size + 1 := by rw [hW0]; exact alloc_size _ _
    have q0 := HH.out.2.2
    rw [← hW0] at q0
    have H1 := Lib.hid (And.intro q0.2.1 (And.intro (Kp.of (jb := jb) (row := (Value.slice vA l.length vc).ownBlock) (hW0 ▸ alloc_below w _) : Kp jb (Value.slice vA l.length vc).ownBlock w w1) (And.intro q0.1 (And.intro q0.2.2.1 (show w.heap.size + 1 ≤ w1.heap.size by omega)))))
    have r1 := range_blk3 q0.1 rfl
    obtain ⟨x0, x1, x2⟩ : w1.cell? ⟨w.heap.size, 0, none⟩ = some (.int .i64 n) ∧ w1.cell? ⟨w.heap.size, 1, none⟩ = some (.bool m) ∧ w1.cell? ⟨w.heap.size, 2, none⟩ = some (.int .i64 z) := ⟨r1 0 _ rfl, r1 1 _ rfl, r1 2 _ rfl⟩
    clear hW0 q0 hs0 r0
    have hck := jcheck_f jb most _ _ _ w1 H1.out.1 n z m A2 k c2 hk
    rw [HH.out.2.2.2.2.2.1] at hck
    refine hck.mono ?_
    rintro e w2 ⟨rfl, b2⟩
    have j2 := H1.out.1.below b2
    have hx2 := (b2.block w.heap.size (by have := H1.out.2.2.2.2; omega)).trans H1.out.2.2.1
    have hd2 := (H1.out.2.2.2.1.below' b2 (by have := H1.out.2.2.2.2; omega)).more (Nat.le_trans (show w.heap.size ≤ w1.heap.size by have := H1.out.2.2.2.2; omega) b2.size)
    have hs2 := b2.size
    have H2 := Lib.hid (And.intro j2 (And.intro (H1.out.2.1.below b2 (by have := H1.out.2.2.2.2; omega)) (And.intro hx2 (And.intro hd2 (show w.heap.size + 1 ≤ w2.heap.size by have := H1.out.2.2.2.2; omega)))))
    have r2 := range_blk3 hx2 rfl
    obtain ⟨y0, y1, y2⟩ : w2.cell? ⟨w.heap.size, 0, none⟩ = some (.int .i64 n) ∧ w2.cell? ⟨w.heap.size, 1, none⟩ = some (.bool m) ∧ w2.cell? ⟨w.heap.size, 2, none⟩ = some (.int .i64 z) := ⟨r2 0 _ rfl, r2 1 _ rfl, r2 2 _ rfl⟩
    clear j2 b2 hx2 hd2 hs2 hck r1 r2 x0 x1 x2
    by_cases hE0 : E = 0
    · subst hE0
      have d0 := H2.out.1.cells
      obtain ⟨e0, e1, e2⟩ := d0
      obtain ⟨q, hq⟩ : ∃ q, l.length = q := ⟨_, rfl⟩
      rw [hq] at e1
      have hVQ : Hid (∀ g, (Value.slice vA q vc).ownBlock = some g → (Value.slice vA l.length vc).ownBlock = some g ∧ g < w.heap.size) := by rw [← hq]; exact hVL
      have hsum : l.length + k ≤ most := HH.out.2.1 rfl
      have hq0 : q ≤ 1048576 := by have := HM.out.1; omega
      have HS := Lib.hid hsum
      have hown := H2.out.1.row
      rw [hq] at hown
      have HO := Lib.hid (And.intro hown hq)
      have hjs : jb + 1 ≤ w2.heap.size := by have := H2.out.1.lt; omega
      clear hsum hq hown
      cases m with
      | true =>
        go_wp2_with (at_builtin
                     refine wpList_append_bs_a2 _ rfl (.tmp 27) (.tmp 28) 22 rfl (jb + 1) 5 i0 Try.underlying22 hi0 hz0 hz1 hz2 _ q _ rfl HO.out.1 _ A2 k c2 d rfl H2.out.2.2.2.1 (by omega) hjs ?_
                     intro v3 w3 hown3 hg3 hat3
                     have hbj := (hg3.block jb H2.out.1.lt (fun e => by have := own_ge HO.out.1 jb e.symm; omega)).trans H2.out.1.blk
                     have hxj := (hg3.block w.heap.size (by have := H2.out.2.2.2.2; omega) (fun e => by
                        have := (hVQ.out w.heap.size e.symm).2
                        omega)).trans H2.out.2.2.1
                     have hz3 := (World.cell?_of_block (w := w2) (a := ⟨jb, 1, none⟩) (hg3.block jb H2.out.1.lt (fun e => by have := own_ge HO.out.1 jb e.symm; omega))).trans e1
                     have hz4 := (World.cell?_of_block (w := w2) (a := ⟨jb, 2, none⟩) (hg3.block jb H2.out.1.lt (fun e => by have := own_ge HO.out.1 jb e.symm; omega))).trans e2
                     have fz3 : w3.frozen? ⟨jb, 1, none⟩ = false := by simp [World.frozen?, hbj]
                     have fz4 : w3.frozen? ⟨jb, 2, none⟩ = false := by simp [World.frozen?, hbj]
                     have hx3 : w3.cell? ⟨w.heap.size, 1, none⟩ = some (.bool true) := by rw [cell_of_row _ _ _ _ _ _ hxj]; rfl
                     have hown4 : w3.ownsRow (jb + 1) 5 1 v3 (l ++ d).length (U8 (l ++ d)) := by rw [List.length_append, HO.out.2, HH.out.2.2.2.2.2.2, U8_append]; exact hown3
                     have hj4 := (jn_set hbj hown4 (by rw [List.length_append, HH.out.2.2.2.2.2.2]; exact HS.out) HM.out.1).setW false
                     have hk4 := ((H2.out.2.1.grown hg3 (fun g e => .inl (hVQ.out g e).1)).setCell 1 v3).setCell 2 (.bool false)
                     have H3 := Lib.hid (And.intro hj4 (And.intro hk4 hat3))
                     have hown5 : w3.ownsRow (jb + 1) 5 1 v3 (q + k) (U8 (l ++ d)) := by rw [U8_append]; exact hown3
                     obtain ⟨vA3, vc3, rfl, _, _⟩ := Bs.of_own hown5
                     clear hown3 hown5 hown4 hj4 hk4 hg3 hat3 hbj hxj e0 e1 e2 y0 y1 y2)
        go_ret2
        rw [HH.out.1, if_pos trivial]
        refine ⟨.slice vA3 (q + k) vc3, rfl, H3.out.1, H3.out.2.1, ?_⟩
        · intro g hg
          rcases H3.out.2.2 with e | e
          · rw [e] at hg
            exact .inl (hVQ.out g hg).1
          · rw [e] at hg
            injection hg with hg
            exact .inr (by have := H2.out.2.2.2.2; omega)
      | false =>
        go_wp2_with (at_builtin
                     refine wpList_append_bs_a2 _ rfl (.tmp 27) (.tmp 28) 22 rfl (jb + 1) 5 i0 Try.underlying22 hi0 hz0 hz1 hz2 _ q _ rfl HO.out.1 _ A2 k c2 d rfl H2.out.2.2.2.1 (by omega) hjs ?_
                     intro v3 w3 hown3 hg3 hat3
                     have hbj := (hg3.block jb H2.out.1.lt (fun e => by have := own_ge HO.out.1 jb e.symm; omega)).trans H2.out.1.blk
                     have hxj := (hg3.block w.heap.size (by have := H2.out.2.2.2.2; omega) (fun e => by
                        have := (hVQ.out w.heap.size e.symm).2
                        omega)).trans H2.out.2.2.1
                     have hz3 := (World.cell?_of_block (w := w2) (a := ⟨jb, 1, none⟩) (hg3.block jb H2.out.1.lt (fun e => by have := own_ge HO.out.1 jb e.symm; omega))).trans e1
                     have hz4 := (World.cell?_of_block (w := w2) (a := ⟨jb, 2, none⟩) (hg3.block jb H2.out.1.lt (fun e => by have := own_ge HO.out.1 jb e.symm; omega))).trans e2
                     have fz3 : w3.frozen? ⟨jb, 1, none⟩ = false := by simp [World.frozen?, hbj]
                     have fz4 : w3.frozen? ⟨jb, 2, none⟩ = false := by simp [World.frozen?, hbj]
                     have hx3 : w3.cell? ⟨w.heap.size, 1, none⟩ = some (.bool false) := by rw [cell_of_row _ _ _ _ _ _ hxj]; rfl
                     have hown4 : w3.ownsRow (jb + 1) 5 1 v3 (l ++ d).length (U8 (l ++ d)) := by rw [List.length_append, HO.out.2, HH.out.2.2.2.2.2.2, U8_append]; exact hown3
                     have hj4 := (jn_set hbj hown4 (by rw [List.length_append, HH.out.2.2.2.2.2.2]; exact HS.out) HM.out.1).setW true
                     have hk4 := ((H2.out.2.1.grown hg3 (fun g e => .inl (hVQ.out g e).1)).setCell 1 v3).setCell 2 (.bool true)
                     have H3 := Lib.hid (And.intro hj4 (And.intro hk4 hat3))
                     have hown5 : w3.ownsRow (jb + 1) 5 1 v3 (q + k) (U8 (l ++ d)) := by rw [U8_append]; exact hown3
                     obtain ⟨vA3, vc3, rfl, _, _⟩ := Bs.of_own hown5
                     clear hown3 hown5 hown4 hj4 hk4 hg3 hat3 hbj hxj e0 e1 e2 y0 y1 y2)
        go_ret2
        rw [HH.out.1, if_pos trivial]
        refine ⟨.slice vA3 (q + k) vc3, rfl, H3.out.1, H3.out.2.1, ?_⟩
        · intro g hg
          rcases H3.out.2.2 with e | e
          · rw [e] at hg
            exact .inl (hVQ.out g hg).1
          · rw [e] at hg
            injection hg with hg
            exact .inr (by have := H2.out.2.2.2.2; omega)
    · have hEb : (E != 0) = true := bne_iff_ne.2 hE0
      have HE := Lib.hid hE0
      clear hE0
      go_wp2_with fail
      refine (jdrop_f jb most _ _ _ w2 H2.out.1).mono ?_
      rintro e w3 ⟨rfl, j3, k3⟩
      have H3 := Lib.hid (And.intro j3 (H2.out.2.1.trans k3 (fun g e => by cases e)))
      clear j3 k3 y0 y1 y2
      go_wp2
      go_ret2
      rw [HH.out.1, if_neg HE.out]
      exact ⟨.slice none 0 0, rfl, H3.out.1, H3.out.2, fun g hg => by cases hg⟩
end Go.Proofs.Ytdgihhepmmkkpaa
