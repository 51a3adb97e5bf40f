/-
  A body that is put together: the program's.
-/
import Derived.Test.YtdgihhepmmkkpaaBlkCut
import Derived.Maps.AppendAt
namespace Go.Proofs.Ytdgihhepmmkkpaa
open Go.RowKit
set_option maxRecDepth 100000
set_option linter.unusedVariables false
section
variable {P : Program} (w : World)
theorem run_append_bs_a2 (base : Nat) (t ty e : TypeId) (i : TypeInfo) (ht : P.underlying t = some (.slice e)) (hi : P.info? e = some i) (hz : i.zero = some (.int .u8 0))
    (hsize : i.size = 1) (hby : i.bytes = 1) (v : Value) (n : Nat) (xs : List Value) (hown : w.ownsRow base e 1 v n xs)
    {B : Nat} {A : Option Addr} {m c : Nat} {l : List UInt8} (hb : Bs w B A m l) (hnm : n + m ≤ 140737488355328) (hbase : base ≤ w.heap.size) :
    ∃ v' w', (Builtin.append_ #[t, t] ty #[v, .slice A m c]).run P w = .ok v' w' ∧ w'.ownsRow base e 1 v' (n + m) (xs ++ U8 l) ∧ w.grownBy w' v.ownBlock ∧ (v'.ownBlock = v.ownBlock ∨ v'.ownBlock = some w.heap.size) := by
  have hl := hb.len
  rcases A with _ | ad
  · have hm : m = 0 := by
      rcases Nat.eq_zero_or_pos m with h0 | h0
      · exact h0
      · obtain ⟨_, _, h, _⟩ := hb.place h0
        cases h
    subst hm
    obtain rfl : l = [] := List.eq_nil_of_length_eq_zero hl
    refine ⟨v, w, ?_, by simpa [U8] using hown, World.grownBy.refl w _, .inl rfl⟩
    rcases hown.2 with ⟨rfl, rfl⟩ | ⟨g, cap, cur, rfl, _, _, hnc, _⟩
    · simp [Builtin.append_, run_underlying ht, sizeOf, typeInfo, hi, Builtin.lenOf, Builtin.firstCells]
    · simp [Builtin.append_, run_underlying ht, sizeOf, typeInfo, hi, Builtin.lenOf, Builtin.firstCells, hnc, storeCells]
  · have hcells : ∀ j u, (U8 l)[j]? = some u → w.cell? (ad.add j) = some u := by
      intro j u hu
      rw [U8_get] at hu
      obtain ⟨x, hx, rfl⟩ := Option.map_eq_some_iff.1 hu
      have hj := (List.getElem?_eq_some_iff.1 hx).1
      obtain ⟨b, off, h, _, hc⟩ := hb.place (by omega)
      injection h with h
      subst h
      rw [Addr.add_lit]
      exact hc j x hx
    obtain ⟨v', w', hrun, h2, h3, _, h5⟩ := run_append_own_at (P := P) w base t ty e i (.int .u8 0) 1 1 ht hi hz hsize hby rfl (by omega) v n xs hown ad m c (U8 l) (by rw [U8_length]; omega) hcells (U8_one l) (by simp only [maxLen]; omega) (by omega) hbase
    exact ⟨v', w', hrun, h2, h3, h5⟩
theorem wpList_append_bs_a2 {ops : Array Oper} {rest : List Oper} {o : Oper} {a : Act} {Q : Exit → Act → World → Prop} (hgd : o.guard = none) (s x : Operand) (t : TypeId)
    (ho : o.op = .call { callee := .builtin .append, args := #[s, x], argTypes := #[t, t] })
    (base : Nat) (e : TypeId) (i : TypeInfo) (ht : P.underlying t = some (.slice e)) (hi : P.info? e = some i) (hz : i.zero = some (.int .u8 0))
    (hsize : i.size = 1) (hby : i.bytes = 1) (v : Value) (n : Nat) (xs : List Value) (hs : a.eval s = v) (hown : w.ownsRow base e 1 v n xs)
    (B : Nat) (A : Option Addr) (m c : Nat) (l : List UInt8) (hx : a.eval x = .slice A m c) (hb : Bs w B A m l) (hnm : n + m ≤ 140737488355328) (hbase : base ≤ w.heap.size)
    (h : ∀ v' w', w'.ownsRow base e 1 v' (n + m) (xs ++ U8 l) → w.grownBy w' v.ownBlock → (v'.ownBlock = v.ownBlock ∨ v'.ownBlock = some w.heap.size) → wpList P ops Q rest (a.put o.dst v') w') : wpList P ops Q (o :: rest) a w :=
  wpList_plain hgd fun _ hK => by
    obtain ⟨v', w', hrun, h2, h3, h4⟩ := run_append_bs_a2 (P := P) w base t o.type e i ht hi hz hsize hby v n xs hown (c := c) hb hnm hbase
    unfold Oper.wp execOp
    simp only [ho, resolve, invoke, builtin, Sem.run_bind, Sem.run_pure, Result.andThen_ok, List.map_toArray, List.map_cons, List.map_nil, hs, hx, hrun]
    exact hK _ _ (h v' w' h2 h3 h4)
end
/-- But for a block and a row the world is as it was. -/
structure Kp (jb : Nat) (row : Option Nat) (w w' : World) : Prop where
  os : w'.os = w.os
  tape : w'.tape = w.tape
  output : w'.output = w.output
  size : w.heap.size ≤ w'.heap.size
  block : ∀ k, k < w.heap.size → k ≠ jb → some k ≠ row → w'.heap[k]? = w.heap[k]?
section
variable {jb : Nat} {row : Option Nat} {a b c : World}
theorem Kp.refl (jb : Nat) (row : Option Nat) (a : World) : Kp jb row a a := ⟨rfl, rfl, rfl, Nat.le_refl _, fun _ _ _ _ => rfl⟩
theorem Kp.below (h : Kp jb row a b) {B : Nat} (k : Below B b c) (hB : a.heap.size ≤ B) : Kp jb row a c :=
  ⟨k.os.trans h.os, k.tape.trans h.tape, k.output.trans h.output, Nat.le_trans h.size k.size, fun i hi hj hr => (k.block i (by omega)).trans (h.block i hi hj hr)⟩
theorem Kp.of (k : Below a.heap.size a b) : Kp jb row a b := (Kp.refl jb row a).below k (Nat.le_refl _)
theorem Kp.setCell (h : Kp jb row a b) (o : Nat) (v : Value) : Kp jb row a (b.setCell ⟨jb, o, none⟩ v) :=
  ⟨h.os, h.tape, h.output, Nat.le_trans h.size (by simp [World.setCell]), fun i hi hj hr => (Below.heap_setCell b ⟨jb, o, none⟩ v i hj).trans (h.block i hi hj hr)⟩
theorem Kp.grown (h : Kp jb row a b) {r : Option Nat} (g : b.grownBy c r) (hr : ∀ k, r = some k → row = some k ∨ a.heap.size ≤ k) : Kp jb row a c :=
  ⟨g.os.trans h.os, g.tape.trans h.tape, g.output.trans h.output, Nat.le_trans h.size g.size, fun i hi hj hx => (g.block i (by have := h.size; omega) (fun e => by
    rcases hr i e.symm with q | q
    · exact hx q.symm
    · omega)).trans (h.block i hi hj hx)⟩
theorem Kp.trans (h : Kp jb row a b) {r : Option Nat} (g : Kp jb r b c) (hr : ∀ k, r = some k → row = some k ∨ a.heap.size ≤ k) : Kp jb row a c :=
  ⟨g.os.trans h.os, g.tape.trans h.tape, g.output.trans h.output, Nat.le_trans h.size g.size, fun i hi hj hx => (g.block i (by have := h.size; omega) hj (fun e => by
    rcases hr i e.symm with q | q
    · exact hx q.symm
    · omega)).trans (h.block i hi hj hx)⟩
theorem Kp.toBelow (h : Kp jb row a b) {B : Nat} (hB : B ≤ a.heap.size) (hj : B ≤ jb) (hr : ∀ k, row = some k → B ≤ k) : Below B a b :=
  ⟨h.os, h.tape, h.output, h.size, fun k hk => h.block k (by omega) (by omega) (fun e => by have := hr k e.symm; omega)⟩
end
/-- The body at its address: how many bytes at most, what has come, has the last one? -/
structure JnAt (w : World) (jb most : Nat) (v : Value) (l : List UInt8) (wh : Bool) : Prop where
  blk : w.heap[jb]? = some (.cells #[.int .i64 (most : Int), v, .bool wh] 93)
  row : w.ownsRow (jb + 1) 5 1 v l.length (U8 l)
  len : l.length ≤ most
  max : most ≤ 1048576
section
variable {w w' : World} {jb most : Nat} {v : Value} {l : List UInt8} {wh : Bool}
theorem JnAt.lt (h : JnAt w jb most v l wh) : jb < w.heap.size := (Array.getElem?_eq_some_iff.1 h.blk).1
theorem JnAt.below (h : JnAt w jb most v l wh) (hb : Below w.heap.size w w') : JnAt w' jb most v l wh := ⟨(hb.block jb h.lt).trans h.blk, row_below h.row hb, h.len, h.max⟩
theorem JnAt.cells (h : JnAt w jb most v l wh) : w.cell? ⟨jb, 0, none⟩ = some (.int .i64 (most : Int)) ∧ w.cell? ⟨jb, 1, none⟩ = some v ∧ w.cell? ⟨jb, 2, none⟩ = some (.bool wh) :=
  ⟨by rw [cell_of_row _ _ _ _ _ _ h.blk]; rfl, by rw [cell_of_row _ _ _ _ _ _ h.blk]; rfl, by rw [cell_of_row _ _ _ _ _ _ h.blk]; rfl⟩
theorem JnAt.frozen (h : JnAt w jb most v l wh) (i : Nat) : w.frozen? ⟨jb, i, none⟩ = false := by simp [World.frozen?, h.blk]
theorem JnAt.open_ (h : JnAt w jb most v l wh) : ∃ A c, v = .slice A l.length c ∧ l.length ≤ c ∧ Bs w w.heap.size A l.length l := by
  obtain ⟨A, c, e, hc, hb⟩ := Bs.of_own h.row
  exact ⟨A, c, e, hc, hb⟩
/-- What has come is set anew. -/
theorem JnAt.setV (h : JnAt w jb most v l wh) {v' : Value} {l' : List UInt8} (hr : w.ownsRow (jb + 1) 5 1 v' l'.length (U8 l')) (hl : l'.length ≤ most) : JnAt (w.setCell ⟨jb, 1, none⟩ v') jb most v' l' wh :=
  ⟨heap_setCell_same w jb 1 _ 93 _ h.blk, row_kept hr (fun g cs hg _ => Below.heap_setCell w ⟨jb, 1, none⟩ v' g (fun e => by
    have h1 := own_ge hr g hg
    have h2 : g = jb := e
    omega)), hl, h.max⟩
theorem JnAt.setW (h : JnAt w jb most v l wh) (b : Bool) : JnAt (w.setCell ⟨jb, 2, none⟩ (.bool b)) jb most v l b :=
  ⟨heap_setCell_same w jb 2 _ 93 _ h.blk, row_kept h.row (fun g cs hg _ => Below.heap_setCell w ⟨jb, 2, none⟩ (.bool b) g (fun e => by
    have h1 := own_ge h.row g hg
    have h2 : g = jb := e
    omega)), h.len, h.max⟩
/-- Bytes don't lie in the body's own block. -/
theorem JnAt.off (h : JnAt w jb most v l wh) {B n : Nat} {A : Option Addr} {d : List UInt8} (hb : Bs w B A n d) (hn : 0 < n) : ∀ a, A = some a → a.block ≠ jb := by
  obtain ⟨b, off, rfl, hlt, hc⟩ := hb.place hn
  intro a e
  injection e with e
  subst e
  intro hbj
  have hbj : b = jb := hbj
  subst hbj
  obtain ⟨u, hu⟩ := byte_get (l := d) (k := 0) (by rw [hb.len]; exact hn)
  have hk := hc 0 u hu
  rw [Nat.add_zero] at hk
  have hz := h.blk
  obtain ⟨A', c', rfl, _, _⟩ := Bs.of_own h.row
  rw [cell_of_row _ _ _ _ _ _ hz] at hk
  match off, hk with
  | 0, hk => cases hk
  | 1, hk => cases hk
  | 2, hk => cases hk
  | _ + 3, hk => simp at hk
theorem Bs.kp {B n : Nat} {A : Option Addr} {d : List UInt8} (hb : Bs w B A n d) {row : Option Nat} (hk : Kp jb row w w') (ho : 0 < n → ∀ a, A = some a → a.block ≠ jb ∧ some a.block ≠ row) (hB : B ≤ w.heap.size) : Bs w' B A n d :=
  ⟨hb.len, fun hn => by
    obtain ⟨b, off, e, hlt, hc⟩ := hb.place hn
    refine ⟨b, off, e, hlt, fun k u hu => ?_⟩
    obtain ⟨h1, h2⟩ := ho hn _ e
    rw [World.cell?_of_block (w := w) (a := ⟨b, off + k, none⟩) (hk.block b (by omega) h1 h2)]
    exact hc k u hu⟩
end
theorem jdrop_f (jb most : Nat) (v : Value) (l : List UInt8) (wh : Bool) (w : World) (h : JnAt w jb most v l wh) :
    Calls Try.prog 52 #[.pointer (some ⟨jb, 0, none⟩)] w fun e w' => e = .returned (.tuple #[]) ∧ JnAt w' jb most (.slice none 0 0) [] false ∧ Kp jb none w w' := by
  obtain ⟨A, c, rfl, _, _⟩ := h.open_
  obtain ⟨c0, c1, c2⟩ := h.cells
  have f1 := h.frozen 1
  have f2 := h.frozen 2
  have hA := (h.setV (v' := .slice none 0 0) (l' := []) (World.ownsRow_nil _ _ _ _) (Nat.zero_le _)).setW false
  have hO := ((Kp.refl jb none w).setCell 1 (.slice none 0 0)).setCell 2 (.bool false)
  have HB := Lib.hid (And.intro hA hO)
  clear h hA hO
  go_enter Try.func52, Try.ntmps52
  go_wp2
  go_end0
  exact ⟨rfl, HB.out.1, HB.out.2⟩
theorem jgot_f (jb most : Nat) (v : Value) (l : List UInt8) (wh : Bool) (w : World) (h : JnAt w jb most v l wh) :
    Calls Try.prog 26 #[.pointer (some ⟨jb, 0, none⟩)] w fun e w' => e = .returned (.int .i64 (l.length : Int)) ∧ w' = w := by
  obtain ⟨A, c, rfl, _, _⟩ := h.open_
  obtain ⟨c0, c1, c2⟩ := h.cells
  obtain ⟨q, hq⟩ : ∃ q, l.length = q := ⟨_, rfl⟩
  rw [hq] at c1 ⊢
  clear h hq
  go_enter Try.func26, Try.ntmps26
  go_wp2
  go_ret
  exact ⟨rfl, rfl⟩
theorem jbytes_f (jb most : Nat) (v : Value) (l : List UInt8) (wh : Bool) (w : World) (h : JnAt w jb most v l wh) :
    Calls Try.prog 27 #[.pointer (some ⟨jb, 0, none⟩)] w (RetOwn 5 l w) := by
  have hm := h.max
  have hl := h.len
  obtain ⟨A, c, rfl, _, hb⟩ := h.open_
  obtain ⟨c0, c1, c2⟩ := h.cells
  have hcl := bclone_f A l.length c l w _ hb (Nat.le_refl _) (by omega)
  obtain ⟨q, hq⟩ : ∃ q, l.length = q := ⟨_, rfl⟩
  rw [hq] at c1 hcl
  have HC := Lib.hid hcl
  clear h hq hcl hb hm hl
  go_enter Try.func27, Try.ntmps27
  go_wp2_with (go_at_call 38; refine HC.out.mono ?_; rintro e w2 ⟨v2, rfl, h2⟩)
  go_ret
  exact ⟨v2, rfl, h2⟩
def mostN (x : Int) : Nat := (min (max x 0) 1048576).toNat
theorem mostN_eq (x : Int) : min (max x 0) 1048576 = (mostN x : Int) := by unfold mostN; omega
theorem newJoin_f (x : Int) (w : World) :
    Calls Try.prog 22 #[.int .i64 x] w fun e w' => e = .returned (.pointer (some ⟨w.heap.size, 0, none⟩)) ∧ JnAt w' w.heap.size (mostN x) (.slice none 0 0) [] false ∧ Below w.heap.size w w' ∧ w'.heap.size = w.heap.size + 1 := by
  have hm := mostN_eq x
  have hmx : mostN x ≤ 1048576 := by omega
  have hj : JnAt (w.alloc (.cells #[.int .i64 (mostN x : Int), .slice none 0 0, .bool false] 93)) w.heap.size (mostN x) (.slice none 0 0) [] false :=
    ⟨heap_alloc_new w _, World.ownsRow_nil _ _ _ _, Nat.zero_le _, hmx⟩
  generalize mostN x = M at *
  obtain ⟨y, hy⟩ : ∃ y, max x 0 = y := ⟨_, rfl⟩
  rw [hy] at hm
  have HJ := Lib.hid hj
  clear hj hmx
  go_enter Try.func22, Try.ntmps22
  go_wp2
  go_ret
  exact ⟨rfl, HJ.out, alloc_below _ _, alloc_size _ _⟩
/-- Which error a block has. -/
def chkE (most : Nat) (l : List UInt8) (wh : Bool) (n z : Int) (m : Bool) (k : Nat) : Int :=
  if rightB n z = false then 1 else if wh = true ∨ n * z ≠ (l.length : Int) then 4 else if z < (k : Int) ∨ (m = true ∧ (k : Int) < z) then 20 else if most - l.length < k then 2 else 0
set_option maxHeartbeats 4000000 in
theorem jcheck_f (jb most : Nat) (v : Value) (l : List UInt8) (wh : Bool) (w : World) (h : JnAt w jb most v l wh) (n z : Int) (m : Bool) (A2 : Option Addr) (k c2 : Nat) (hk : (k : Int) ≤ 1099511627776) :
    Calls Try.prog 53 #[.pointer (some ⟨jb, 0, none⟩), .agg #[.int .i64 n, .bool m, .int .i64 z], .slice A2 k c2] w fun e w' => e = .returned (.int .i64 (chkE most l wh n z m k)) ∧ Below w.heap.size w w' := by
  have hir := fun W => isRight_f n z W
  have hmx := h.max
  have hll := h.len
  have hj := fun W (hb : Below w.heap.size w W) => (h.below hb).cells
  obtain ⟨A, c, rfl, _, _⟩ := h.open_
  have hb1 := alloc_below w (.cells #[.int .i64 n, .bool m, .int .i64 z] 37)
  obtain ⟨E, hE⟩ : ∃ E, chkE most l wh n z m k = E := ⟨_, rfl⟩
  rw [hE]
  obtain ⟨q, hq⟩ : ∃ q, l.length = q := ⟨_, rfl⟩
  have hE' : E = if rightB n z = false then 1 else if wh = true ∨ n * z ≠ (q : Int) then 4 else if z < (k : Int) ∨ (m = true ∧ (k : Int) < z) then 20 else if most - q < k then 2 else 0 := by rw [← hE]; unfold chkE; rw [hq]
  rw [hq] at hj hll
  have j0 := fun o => hj _ (alloc_below w o)
  have HJ := Lib.hid hj
  have hlt := h.lt
  clear hE h hj hq
  have c0 := fun o => (j0 o).1
  have c1 := fun o => (j0 o).2.1
  have c2' := fun o => (j0 o).2.2
  have HB := Lib.hid hb1
  clear j0 hb1
  cases hr : rightB n z with
  | false =>
    rw [hr] at hir hE'
    rw [if_pos rfl] at hE'
    have HI := Lib.hid (And.intro hir hE')
    clear hir hr hE'
    go_enter Try.func53, Try.ntmps53
    go_wp2_with (go_at_call 51; refine (HI.out.1 _).mono ?_; rintro e w1 ⟨rfl, hw⟩; obtain rfl := hw.symm)
    go_ret
    exact ⟨by rw [HI.out.2]; rfl, HB.out⟩
  | true =>
    obtain ⟨N, Z, T, rfl, rfl, hN, hZ0, hZ1, hT, hTm, hT0, _⟩ := right_nat hr
    rw [hr] at hir hE'
    rw [if_neg (by simp), hT] at hE'
    have hTI : (T : Int) ≤ 1073740800 := by omega
    have hZI : (Z : Int) ≤ 1024 := by omega
    have hNI : (N : Int) ≤ 1048575 := by omega
    have HI := Lib.hid hir
    clear hir hr
    cases wh with
    | true =>
      rw [if_pos (.inl rfl)] at hE'
      have HE := Lib.hid hE'
      clear hE'
      go_enter Try.func53, Try.ntmps53
      go_wp2_with (go_at_call 51; refine (HI.out _).mono ?_; rintro e w1 ⟨rfl, hw⟩; obtain rfl := hw.symm)
      go_quiet (fail)
      go_wp2
      go_ret
      exact ⟨by rw [HE.out]; rfl, HB.out.trans (drewN_below _ _ _)⟩
    | false =>
      by_cases hTq : T = q
      · have t0 : ((T : Int) != (q : Int)) = false := by rw [hTq]; simp
        rw [if_neg (by rintro (h | h); cases h; exact h (by rw [hTq]))] at hE'
        have hmq : (most : Int) ≤ 1048576 := by omega
        obtain ⟨r, hr⟩ : ∃ r, most - q = r := ⟨_, rfl⟩
        have hrI : (most : Int) - (q : Int) = (r : Int) := by omega
        rw [hr] at hE'
        have hqI : (q : Int) ≤ 1048576 := by omega
        have hrm : (r : Int) ≤ 1048576 := by omega
        clear hr
        by_cases hkZ : Z < k
        · have k0 : (Z : Int) < k := by omega
          rw [if_pos (.inl k0)] at hE'
          have HE := Lib.hid hE'
          clear hE'
          go_enter Try.func53, Try.ntmps53
          go_wp2_with (go_at_call 51; refine (HI.out _).mono ?_; rintro e w1 ⟨rfl, hw⟩; obtain rfl := hw.symm)
          go_quiet (fail)
          go_wp2
          go_ret
          exact ⟨by rw [HE.out]; rfl, HB.out.trans (drewN_below _ _ _)⟩
        · have k0 : ¬ (Z : Int) < k := by omega
          cases m with
          | true =>
            by_cases hk2 : k < Z
            · have k1 : (k : Int) < Z := by omega
              rw [if_pos (.inr ⟨rfl, k1⟩)] at hE'
              have HE := Lib.hid hE'
              clear hE'
              go_enter Try.func53, Try.ntmps53
              go_wp2_with (go_at_call 51; refine (HI.out _).mono ?_; rintro e w1 ⟨rfl, hw⟩; obtain rfl := hw.symm)
              go_quiet (fail)
              go_wp2
              go_ret
              exact ⟨by rw [HE.out]; rfl, HB.out.trans (drewN_below _ _ _)⟩
            · have k1 : ¬ (k : Int) < Z := by omega
              rw [if_neg (by rintro (h | ⟨_, h⟩); exact k0 h; exact k1 h)] at hE'
              by_cases hrk : r < k
              · have k2 : (r : Int) < k := by omega
                rw [if_pos hrk] at hE'
                have HE := Lib.hid hE'
                clear hE'
                go_enter Try.func53, Try.ntmps53
                go_wp2_with (go_at_call 51; refine (HI.out _).mono ?_; rintro e w1 ⟨rfl, hw⟩; obtain rfl := hw.symm)
                go_quiet (fail)
                go_wp2
                go_quiet (fail)
                go_wp2
                go_ret
                exact ⟨by rw [HE.out]; rfl, (HB.out.trans (drewN_below _ _ _)).trans (drewN_below _ _ _)⟩
              · have k2 : ¬ (r : Int) < k := by omega
                rw [if_neg hrk] at hE'
                have HE := Lib.hid hE'
                clear hE'
                go_enter Try.func53, Try.ntmps53
                go_wp2_with (go_at_call 51; refine (HI.out _).mono ?_; rintro e w1 ⟨rfl, hw⟩; obtain rfl := hw.symm)
                go_quiet (fail)
                go_wp2
                go_quiet (fail)
                go_wp2
                go_ret
                exact ⟨by rw [HE.out]; rfl, (HB.out.trans (drewN_below _ _ _)).trans (drewN_below _ _ _)⟩
          | false =>
            rw [if_neg (by rintro (h | ⟨h, _⟩); exact k0 h; cases h)] at hE'
            by_cases hrk : r < k
            · have k2 : (r : Int) < k := by omega
              rw [if_pos hrk] at hE'
              have HE := Lib.hid hE'
              clear hE'
              go_enter Try.func53, Try.ntmps53
              go_wp2_with (go_at_call 51; refine (HI.out _).mono ?_; rintro e w1 ⟨rfl, hw⟩; obtain rfl := hw.symm)
              go_quiet (fail)
              go_wp2
              go_quiet (fail)
              go_wp2
              go_ret
              exact ⟨by rw [HE.out]; rfl, (HB.out.trans (drewN_below _ _ _)).trans (drewN_below _ _ _)⟩
            · have k2 : ¬ (r : Int) < k := by omega
              rw [if_neg hrk] at hE'
              have HE := Lib.hid hE'
              clear hE'
              go_enter Try.func53, Try.ntmps53
              go_wp2_with (go_at_call 51; refine (HI.out _).mono ?_; rintro e w1 ⟨rfl, hw⟩; obtain rfl := hw.symm)
              go_quiet (fail)
              go_wp2
              go_quiet (fail)
              go_wp2
              go_ret
              exact ⟨by rw [HE.out]; rfl, (HB.out.trans (drewN_below _ _ _)).trans (drewN_below _ _ _)⟩
      · have t0 : ((T : Int) != (q : Int)) = true := bne_iff_ne.2 (by omega)
        rw [if_pos (.inr (by omega))] at hE'
        have HE := Lib.hid hE'
        clear hE'
        go_enter Try.func53, Try.ntmps53
        go_wp2_with (go_at_call 51; refine (HI.out _).mono ?_; rintro e w1 ⟨rfl, hw⟩; obtain rfl := hw.symm)
        go_quiet (fail)
        go_wp2
        go_ret
        exact ⟨by rw [HE.out]; rfl, HB.out.trans (drewN_below _ _ _)⟩
end Go.Proofs.Ytdgihhepmmkkpaa
