/-
  A body that is put together, by the document.
-/
import Derived.Test.YtdgihhepmmkkpaaBlkPure
import Derived.Test.YtdgihhepmmkkpaaJoin
import Derived.Test.YtdgihhepmmkkpaaBlkAlive
import Derived.Test.YtdgihhepmmkkpaaRel2
import Derived.Deep.Cut
namespace Go.Proofs.Ytdgihhepmmkkpaa
open Go.RowKit
set_option maxRecDepth 100000
set_option linter.unusedVariables false
theorem results_ctt {P : Program} {fn : Func} {p u v : Tmp} {ty : TypeId} (h : fn.results = #[.cell p ty, .tmp u, .tmp v]) (tmps : Array Value) (w : World) (b o : Nat) (cs : List Value) (d : TypeDesc)
    (hp : tmps.getD p undef = .pointer (some ⟨b, o, none⟩)) (hc : w.rangeAt b o cs) (hu : P.underlying ty = some d) (hd : d.isRow = true) (hi : (P.info? ty).map (·.size) = some cs.length) :
    (results fn tmps).run P w = .ok (.tuple #[.agg cs.toArray, tmps.getD u undef, tmps.getD v undef]) w := by
  have hp' : tmps[p]?.getD undef = .pointer (some ⟨b, o, none⟩) := by simpa using hp
  simp [results, h, hp', asAddr, run_loadVar_mid w b o ty cs d hc hu hd hi]
theorem size_rj : (Try.prog.info? 58).map (·.size) = some 3 := by kernel_rfl
theorem one3j (a : Int) (A : Option Addr) (n c : Nat) (b : Bool) : ∀ v ∈ ([.int .i64 a, .slice A n c, .bool b] : List Value), v.oneCell' = true := by
  intro v hv
  simp only [List.mem_cons, List.not_mem_nil, or_false] at hv
  rcases hv with rfl | rfl | rfl <;> rfl
/-- Which error a block has, by the document. -/
def rchk (most : Nat) (l : List UInt8) (on : Bool) (n z : Int) (m : Bool) (k : Nat) : Int :=
  if rightB n z = false then 1 else if on = false ∨ n * z ≠ (l.length : Int) then 4 else if z < (k : Int) ∨ (m = true ∧ (k : Int) < z) then 20 else if most < l.length + k then 2 else 0
def rput (most : Nat) (l : List UInt8) (on : Bool) (n z : Int) (m : Bool) (d : List UInt8) : (List UInt8 × Bool) × Bool × Int :=
  if rchk most (if n = 0 then [] else l) (if n = 0 then true else on) n z m d.length = 0 then (((if n = 0 then [] else l) ++ d, m), !m, 0) else (([], false), false, rchk most (if n = 0 then [] else l) (if n = 0 then true else on) n z m d.length)
def RPRet (most : Nat) (r : (List UInt8 × Bool) × Bool × Int) (w : World) (e : Ending) (w' : World) : Prop :=
  ∃ A n c, e = .returned (.tuple #[.agg #[.int .i64 (most : Int), .slice A n c, .bool r.1.2], .bool r.2.1, .int .i64 r.2.2]) ∧ n ≤ c ∧ Hid (n = r.1.1.length) ∧ Bs w' w'.heap.size A n r.1.1 ∧ (∀ a, A = some a → w.heap.size ≤ a.block) ∧ Below w.heap.size w w'
/-- The four blocks that the call has made. -/
structure R4 (w W : World) (most : Nat) (v : Value) (on : Bool) (n z : Int) (m : Bool) : Prop where
  bel : Below w.heap.size w W
  size : w.heap.size + 4 ≤ W.heap.size
  j : W.heap[w.heap.size]? = some (.cells #[.int .i64 (most : Int), v, .bool on] 58)
  b : W.heap[w.heap.size + 1]? = some (.cells #[.int .i64 n, .bool m, .int .i64 z] 42)
  r : W.heap[w.heap.size + 2]? = some (.cells #[.int .i64 0, .slice none 0 0, .bool false] 58)
  f : W.heap[w.heap.size + 3]? = some (.cells #[.int .i64 (most : Int), .slice none 0 0, .bool false] 58)
theorem R4.made (w : World) (most : Nat) (v : Value) (on : Bool) (n z : Int) (m : Bool) :
    R4 w ((((w.alloc (.cells #[.int .i64 (most : Int), v, .bool on] 58)).alloc (.cells #[.int .i64 n, .bool m, .int .i64 z] 42)).alloc (.cells #[.int .i64 0, .slice none 0 0, .bool false] 58)).alloc (.cells #[.int .i64 (most : Int), .slice none 0 0, .bool false] 58)) most v on n z m := by
  generalize hw1 : w.alloc (.cells #[.int .i64 (most : Int), v, .bool on] 58) = w1
  have s1 : w1.heap.size = w.heap.size + 1 := by rw [← hw1]; exact alloc_size _ _
  have a1 : w1.heap[w.heap.size]? = some (.cells #[.int .i64 (most : Int), v, .bool on] 58) := by rw [← hw1]; exact heap_alloc_new w _
  have b1 : Below w.heap.size w w1 := hw1 ▸ alloc_below w _
  generalize hw2 : w1.alloc (.cells #[.int .i64 n, .bool m, .int .i64 z] 42) = w2
  have s2 : w2.heap.size = w.heap.size + 2 := by rw [← hw2, alloc_size, s1]
  have a2 : w2.heap[w.heap.size + 1]? = some (.cells #[.int .i64 n, .bool m, .int .i64 z] 42) := by rw [← hw2, ← s1]; exact heap_alloc_new w1 _
  have b2 : Below w1.heap.size w1 w2 := hw2 ▸ alloc_below w1 _
  generalize hw3 : w2.alloc (.cells #[.int .i64 0, .slice none 0 0, .bool false] 58) = w3
  have s3 : w3.heap.size = w.heap.size + 3 := by rw [← hw3, alloc_size, s2]
  have a3 : w3.heap[w.heap.size + 2]? = some (.cells #[.int .i64 0, .slice none 0 0, .bool false] 58) := by rw [← hw3, ← s2]; exact heap_alloc_new w2 _
  have b3 : Below w2.heap.size w2 w3 := hw3 ▸ alloc_below w2 _
  generalize hw4 : w3.alloc (.cells #[.int .i64 (most : Int), .slice none 0 0, .bool false] 58) = w4
  have s4 : w4.heap.size = w.heap.size + 4 := by rw [← hw4, alloc_size, s3]
  have a4 : w4.heap[w.heap.size + 3]? = some (.cells #[.int .i64 (most : Int), .slice none 0 0, .bool false] 58) := by rw [← hw4, ← s3]; exact heap_alloc_new w3 _
  have b4 : Below w3.heap.size w3 w4 := hw4 ▸ alloc_below w3 _
  exact ⟨((b1.trans (b2.mono b1.size)).trans (b3.mono (by omega))).trans (b4.mono (by omega)), Nat.le_of_eq s4.symm, (b4.block _ (by omega)).trans ((b3.block _ (by omega)).trans ((b2.block _ (by omega)).trans a1)), (b4.block _ (by omega)).trans ((b3.block _ (by omega)).trans a2), (b4.block _ (by omega)).trans a3, a4⟩
theorem R4.setJ {w W : World} {most : Nat} {v : Value} {on : Bool} {n z : Int} {m : Bool} (h : R4 w W most v on n z m) (v' : Value) : R4 w (W.setCell ⟨w.heap.size, 1, none⟩ v') most v' on n z m :=
  ⟨h.bel.setCell (p := ⟨w.heap.size, 1, none⟩) (Nat.le_refl _) v', by rw [show (W.setCell ⟨w.heap.size, 1, none⟩ v').heap.size = W.heap.size from by simp [World.setCell]]; exact h.size, heap_setCell_same W _ 1 _ 58 _ h.j,
   (Below.heap_setCell W ⟨w.heap.size, 1, none⟩ v' _ (by show _ ≠ w.heap.size; omega)).trans h.b, (Below.heap_setCell W ⟨w.heap.size, 1, none⟩ v' _ (by show _ ≠ w.heap.size; omega)).trans h.r, (Below.heap_setCell W ⟨w.heap.size, 1, none⟩ v' _ (by show _ ≠ w.heap.size; omega)).trans h.f⟩
theorem R4.setO {w W : World} {most : Nat} {v : Value} {on : Bool} {n z : Int} {m : Bool} (h : R4 w W most v on n z m) (b : Bool) : R4 w (W.setCell ⟨w.heap.size, 2, none⟩ (.bool b)) most v b n z m :=
  ⟨h.bel.setCell (p := ⟨w.heap.size, 2, none⟩) (Nat.le_refl _) (.bool b), by rw [show (W.setCell ⟨w.heap.size, 2, none⟩ (.bool b)).heap.size = W.heap.size from by simp [World.setCell]]; exact h.size, heap_setCell_same W _ 2 _ 58 _ h.j,
   (Below.heap_setCell W ⟨w.heap.size, 2, none⟩ (.bool b) _ (by show _ ≠ w.heap.size; omega)).trans h.b, (Below.heap_setCell W ⟨w.heap.size, 2, none⟩ (.bool b) _ (by show _ ≠ w.heap.size; omega)).trans h.r, (Below.heap_setCell W ⟨w.heap.size, 2, none⟩ (.bool b) _ (by show _ ≠ w.heap.size; omega)).trans h.f⟩
theorem R4.below {w W W' : World} {most : Nat} {v : Value} {on : Bool} {n z : Int} {m : Bool} (h : R4 w W most v on n z m) (hb : Below W.heap.size W W') : R4 w W' most v on n z m :=
  have hs := h.size
  ⟨h.bel.trans (hb.mono (by omega)), Nat.le_trans hs hb.size, (hb.block _ (by omega)).trans h.j, (hb.block _ (by omega)).trans h.b, (hb.block _ (by omega)).trans h.r, (hb.block _ (by omega)).trans h.f⟩
theorem R4.there {w W : World} {most : Nat} {v : Value} {on : Bool} {n z : Int} {m : Bool} (h : R4 w W most v on n z m) : W.there (w.heap.size + 2) 0 3 := by
  intro j hj
  rw [Nat.zero_add]
  refine ⟨?_, by simp [World.frozen?, h.r]⟩
  rw [cell_of_row _ _ _ _ _ _ h.r]
  match j, hj with
  | 0, _ | 1, _ | 2, _ => rfl
theorem R4.done {w W : World} {most : Nat} {v : Value} {on : Bool} {n z : Int} {m : Bool} (h : R4 w W most v on n z m) (vs : List Value) (hl : vs.length = 3) : (W.setCells (w.heap.size + 2) 0 vs).rangeAt (w.heap.size + 2) 0 vs ∧ Below w.heap.size w (W.setCells (w.heap.size + 2) 0 vs) :=
  ⟨World.rangeAt_setCells_same _ _ _ _ (by rw [hl]; exact h.there), below_setCells h.bel (by omega) _ _⟩
theorem RPRet.err {most : Nat} {w w' : World} {E : Int} {R : (List UInt8 × Bool) × Bool × Int} (hR : R = (([], false), false, E)) (hb : Below w.heap.size w w') : RPRet most R w (.returned (.tuple #[.agg #[.int .i64 (most : Int), .slice none 0 0, .bool false], .bool false, .int .i64 E])) w' := by
  subst hR
  exact ⟨none, 0, 0, rfl, Nat.le_refl _, rfl, Bs.empty _ _ _, (fun a e => by cases e), hb⟩
theorem Bs.setR3 {w : World} {B n R : Nat} {A : Option Addr} {l : List UInt8} {a : Int} {A1 : Option Addr} {n1 c1 : Nat} {b : Bool} {t : TypeId} (h : Bs w B A n l) (hz : w.heap[R]? = some (.cells #[.int .i64 a, .slice A1 n1 c1, .bool b] t)) (cs : List Value) : Bs (w.setCells R 0 cs) B A n l :=
  ⟨h.len, fun hn => by
    obtain ⟨bb, off, e, hb, hc⟩ := h.place hn
    refine ⟨bb, off, e, hb, fun k u hu => ?_⟩
    have hk := hc k u hu
    by_cases hbN : bb = R
    · subst hbN
      rw [cell_of_row _ _ _ _ _ _ hz] at hk
      exact absurd hk (by
        generalize off + k = j
        match j with
        | 0 => intro h; cases h
        | 1 => intro h; cases h
        | 2 => intro h; cases h
        | _ + 3 => intro h; simp at h)
    · rw [World.cell?_setCells_out _ _ _ _ _ (fun e => absurd e hbN)]; exact hk⟩
theorem ps_two {w : World} {b B : Nat} {A1 A2 : Option Addr} {n1 c1 n2 c2 : Nat} {l1 l2 : List UInt8} {t : TypeId} (h : w.heap[b]? = some (.cells #[.slice A1 n1 c1, .slice A2 n2 c2] t)) (hb : b < B) (h1 : Bs w B A1 n1 l1) (h2 : Bs w B A2 n2 l2) : Ps w B (some ⟨b, 0, none⟩) 2 [l1, l2] := by
  refine ⟨rfl, fun _ => ⟨b, 0, rfl, hb, fun i l hl => ?_⟩⟩
  match i, hl with
  | 0, hl => obtain rfl := Option.some.inj hl; exact ⟨A1, n1, c1, by rw [cell_of_row _ _ _ _ _ _ h]; rfl, h1⟩
  | 1, hl => obtain rfl := Option.some.inj hl; exact ⟨A2, n2, c2, by rw [cell_of_row _ _ _ _ _ _ h]; rfl, h2⟩
structure S15 (w : World) (H most : Nat) (AJ : Option Addr) (nJ cJ : Nat) (L : List UInt8) (m : Bool) (N z : Int) (W : World) : Prop where
  bel : Below w.heap.size w W
  size : W.heap.size = H
  j : W.heap[w.heap.size]? = some (.cells #[.int .i64 (most : Int), .slice AJ nJ cJ, .bool m] 58)
  b : W.heap[w.heap.size + 1]? = some (.cells #[.int .i64 N, .bool m, .int .i64 z] 42)
  there : W.there (w.heap.size + 2) 0 3
  bs : Bs W H AJ nJ L
  ge : ∀ a, AJ = some a → w.heap.size + 4 ≤ a.block
theorem S15.stored {w : World} {H most : Nat} {AJ : Option Addr} {nJ cJ : Nat} {L : List UInt8} {m : Bool} {N z : Int} {W : World} (h : S15 w H most AJ nJ cJ L m N z W) (vs : List Value) (hl : vs.length = 3) :
    S15 w H most AJ nJ cJ L m N z (W.setCells (w.heap.size + 2) 0 vs) ∧ (W.setCells (w.heap.size + 2) 0 vs).rangeAt (w.heap.size + 2) 0 vs := by
  have hblk : ∀ k, k ≠ w.heap.size + 2 → (W.setCells (w.heap.size + 2) 0 vs).heap[k]? = W.heap[k]? := fun k hk => by
    have : ∀ (us : List Value) (o : Nat) (X : World), (X.setCells (w.heap.size + 2) o us).heap[k]? = X.heap[k]? := by
      intro us
      induction us with
      | nil => intro o X; rfl
      | cons u us ih => intro o X; rw [World.setCells, ih, Below.heap_setCell _ _ _ _ hk]
    exact this vs 0 W
  refine ⟨⟨below_setCells h.bel (by omega) _ _, (size_setCells_ _ _ _ _).trans h.size, (hblk _ (by omega)).trans h.j, (hblk _ (by omega)).trans h.b, World.there_setCells h.there _ _ _, ⟨h.bs.len, fun hn => ?_⟩, h.ge⟩, World.rangeAt_setCells_same _ _ _ _ (by rw [hl]; exact h.there)⟩
  obtain ⟨bb, off, e, hb, hc⟩ := h.bs.place hn
  refine ⟨bb, off, e, hb, fun k u hu => ?_⟩
  have hg := h.ge _ e
  rw [World.cell?_of_block (w := W) (a := ⟨bb, off + k, none⟩) (hblk bb (by have : w.heap.size + 4 ≤ bb := hg; omega))]
  exact hc k u hu
def BpR (c0 : Nat) (vs : List Value) (m m2 : Bool) (i : Nat) (W : World) (v : Value) : Prop :=
  match i with
  | 0 => v = .agg vs.toArray
  | 1 => v = .pointer (some ⟨c0 + 1, 1, none⟩)
  | 2 => v = .bool m
  | 4 => W.rangeAt (c0 + 2) 0 vs
  | 6 => v = .int .i64 0
  | _ => v = .bool m2
theorem BpR.grow {c0 : Nat} {vs : List Value} {m m2 : Bool} (i : Nat) (W W' : World) (v : Value) (hT : W.rangeAt (c0 + 2) 0 vs → W'.rangeAt (c0 + 2) 0 vs) (h : BpR c0 vs m m2 i W v) : BpR c0 vs m m2 i W' v := by
  unfold BpR at h ⊢
  split at h
  all_goals first
    | exact hT h
    | exact h
set_option maxHeartbeats 8000000 in
theorem rput_f (most : Nat) (A : Option Addr) (q c : Nat) (l : List UInt8) (on : Bool) (w : World) (B : Nat) (hbs : Bs w B A q l) (hB : B ≤ w.heap.size) (n z : Int) (m : Bool) (A2 : Option Addr) (k c2 : Nat) (d : List UInt8) (hd : Bs w B A2 k d) (hqc : q ≤ c) (hlk : l.length + k ≤ 65536) (hmo : (most : Int) ≤ 1048576) :
    Calls Try.prog 25 #[.agg #[.int .i64 (most : Int), .slice A q c, .bool on], .agg #[.int .i64 n, .bool m, .int .i64 z], .slice A2 k c2] w (RPRet most (rput most l on n z m d) w) := by
  have hql := hbs.len
  have hdl := hd.len
  obtain ⟨R, hRR⟩ : ∃ R, rput most l on n z m d = R := ⟨_, rfl⟩
  rw [hRR]
  have hir := fun W => right_f n z W

  have hkI : (k : Int) ≤ 65536 := by omega
  have hqI : (q : Int) ≤ 65536 := by omega
  have hB0 := hB
  by_cases hn : n = 0
  · subst hn
    obtain ⟨E, hE⟩ : ∃ E, rchk most [] true 0 z m k = E := ⟨_, rfl⟩
    have hR : R = if E = 0 then (([] ++ d, m), !m, 0) else (([], false), false, E) := by rw [← hRR, ← hE]; unfold rput; rw [if_pos rfl, if_pos rfl, hdl]
    have hEd : E = if rightB 0 z = false then 1 else if true = false ∨ 0 * z ≠ ((0 : Nat) : Int) then 4 else if z < (k : Int) ∨ (m = true ∧ (k : Int) < z) then 20 else if most < 0 + k then 2 else 0 := by rw [← hE]; rfl
    have hj := R4.made w most (.slice none 0 0) true 0 z m
    have HJ := Lib.hid hj
    have HB := Lib.hid (And.intro (Bs.empty w B none) (And.intro hd (show ([] : List UInt8).length + d.length ≤ 65536 by rw [hdl]; simp only [List.length_nil]; omega)))
    have HEd := Lib.hid (And.intro hR hEd)
    clear hj hE hRR hbs hd hql hdl hR hEd
    go_enter Try.func25, Try.ntmps25
    go_wp2_with fail
    refine calls_at_world (F := fun W => R4 w W most (.slice none 0 0) true 0 z m) HJ.out fun W0 h0 => ?_
    have R0 := Lib.hid h0
    obtain ⟨j0, j1, j2⟩ := (⟨range_blk3 h0.j rfl 0 _ rfl, range_blk3 h0.j rfl 1 _ rfl, range_blk3 h0.j rfl 2 _ rfl⟩ : W0.cell? ⟨w.heap.size, 0 + 0, none⟩ = some (.int .i64 (most : Int)) ∧ W0.cell? ⟨w.heap.size, 0 + 1, none⟩ = some (.slice none 0 0) ∧ W0.cell? ⟨w.heap.size, 0 + 2, none⟩ = some (.bool true))
    obtain ⟨b0, b1, b2⟩ := (⟨range_blk3 h0.b rfl 0 _ rfl, range_blk3 h0.b rfl 1 _ rfl, range_blk3 h0.b rfl 2 _ rfl⟩ : W0.cell? ⟨w.heap.size + 1, 0 + 0, none⟩ = some (.int .i64 0) ∧ W0.cell? ⟨w.heap.size + 1, 0 + 1, none⟩ = some (.bool m) ∧ W0.cell? ⟨w.heap.size + 1, 0 + 2, none⟩ = some (.int .i64 z))
    rw [Nat.zero_add] at j0 j1 j2 b0 b1 b2
    have rf := range_blk3 h0.f rfl
    clear h0 HJ
    refine (hir W0).mono ?_
    rintro e w1 ⟨rfl, hw⟩
    obtain rfl := hw.symm
    clear hir hw
    have hR := HEd.out.1
    have hEd := HEd.out.2
    clear HEd
    cases hrt : rightB 0 z with
    | false =>
      have hEE : E = 1 := by rw [hEd, if_pos hrt]
      have HE := Lib.hid (hR.trans (by rw [hEE, if_neg (by decide)]))
      clear hEE hR hEd hrt
      go_upto_region 6 with fail
      go_wp2_with (first
        | (refine wpList_load_mid rfl 58 (.tmp 9) rfl (w.heap.size + 3) 0 rfl [.int .i64 (most : Int), .slice none 0 0, .bool false] _ rf Try.underlying58 rfl size_rj ?_)
        | (refine wpList_store_mid rfl 58 (.tmp 6) (.tmp 24) rfl (w.heap.size + 2) 0 (List.toArray [.int .i64 (most : Int), .slice none 0 0, .bool false]) rfl rfl R0.out.there size_rj (all_oneCell_toArray (one3j _ _ _ _ _)) ?_))
      have hd0 := R0.out.done [.int .i64 (most : Int), .slice none 0 0, .bool false] rfl
      refine bodyPost_ret (results_ctt rfl _ _ (w.heap.size + 2) 0 [.int .i64 (most : Int), .slice none 0 0, .bool false] _ rfl hd0.1 Try.underlying58 rfl size_rj) rfl ?_
      exact RPRet.err HE.out hd0.2
    | true =>
      obtain ⟨N0, Z, T, hNN, rfl, hN, hZ0, hZ1, hT, hTm, hT0, _⟩ := right_nat hrt
      obtain rfl : N0 = 0 := by omega
      obtain rfl := hT0 rfl
      rw [if_neg (by rw [hrt]; simp)] at hEd
      have hTI : ((0 : Nat) : Int) ≤ 1073740800 := by omega
      have hZI : (Z : Int) ≤ 1024 := by omega
      rw [if_neg (by rintro (h | h); cases h; exact h (by simp))] at hEd
      have hT' : (0 : Int) * (Z : Int) = 0 := by simp
      clear hT hT0 hrt hTm hN hNN
      by_cases hkZ : Z < k
      · have k0 : (Z : Int) < k := by omega
        rw [if_pos (.inl k0)] at hEd
        have hEE : E = 20 := hEd
        have HE := Lib.hid (hR.trans (by rw [hEE, if_neg (by decide)]))
        clear hEE hR hEd
        go_upto_region 10 with fail
        go_wp2_with (first
          | (refine wpList_load_mid rfl 58 (.tmp 9) rfl (w.heap.size + 3) 0 rfl [.int .i64 (most : Int), .slice none 0 0, .bool false] _ rf Try.underlying58 rfl size_rj ?_)
          | (refine wpList_store_mid rfl 58 (.tmp 6) (.tmp 56) rfl (w.heap.size + 2) 0 (List.toArray [.int .i64 (most : Int), .slice none 0 0, .bool false]) rfl rfl R0.out.there size_rj (all_oneCell_toArray (one3j _ _ _ _ _)) ?_))
        have hd0 := R0.out.done [.int .i64 (most : Int), .slice none 0 0, .bool false] rfl
        refine bodyPost_ret (results_ctt rfl _ _ (w.heap.size + 2) 0 [.int .i64 (most : Int), .slice none 0 0, .bool false] _ rfl hd0.1 Try.underlying58 rfl size_rj) rfl ?_
        exact RPRet.err HE.out hd0.2
      · have k0 : ¬ (Z : Int) < k := by omega
        cases m with
        | true =>
          by_cases hk2 : k < Z
          · have k1 : (k : Int) < Z := by omega
            rw [if_pos (.inr ⟨rfl, k1⟩)] at hEd
            have hEE : E = 20 := hEd
            have HE := Lib.hid (hR.trans (by rw [hEE, if_neg (by decide)]))
            clear hEE hR hEd
            go_upto_region 10 with fail
            go_wp2_with (first
              | (refine wpList_load_mid rfl 58 (.tmp 9) rfl (w.heap.size + 3) 0 rfl [.int .i64 (most : Int), .slice none 0 0, .bool false] _ rf Try.underlying58 rfl size_rj ?_)
              | (refine wpList_store_mid rfl 58 (.tmp 6) (.tmp 56) rfl (w.heap.size + 2) 0 (List.toArray [.int .i64 (most : Int), .slice none 0 0, .bool false]) rfl rfl R0.out.there size_rj (all_oneCell_toArray (one3j _ _ _ _ _)) ?_))
            have hd0 := R0.out.done [.int .i64 (most : Int), .slice none 0 0, .bool false] rfl
            refine bodyPost_ret (results_ctt rfl _ _ (w.heap.size + 2) 0 [.int .i64 (most : Int), .slice none 0 0, .bool false] _ rfl hd0.1 Try.underlying58 rfl size_rj) rfl ?_
            exact RPRet.err HE.out hd0.2
          · have k1 : ¬ (k : Int) < Z := by omega
            rw [if_neg (by rintro (h | ⟨_, h⟩); exact k0 h; exact k1 h)] at hEd
            by_cases hmk : most < 0 + k
            · have k2 : (most : Int) < (0 : Int) + (k : Int) := by omega
              have k3 : (most : Int) < (k : Int) := by omega
              have hEE : E = 2 := by rw [hEd, if_pos hmk]
              have HE := Lib.hid (hR.trans (by rw [hEE, if_neg (by decide)]))
              clear hEE hR hEd
              go_upto_region 12 with fail
              go_wp2_with (first
                | (refine wpList_load_mid rfl 58 (.tmp 9) rfl (w.heap.size + 3) 0 rfl [.int .i64 (most : Int), .slice none 0 0, .bool false] _ rf Try.underlying58 rfl size_rj ?_)
                | (refine wpList_store_mid rfl 58 (.tmp 6) (.tmp 66) rfl (w.heap.size + 2) 0 (List.toArray [.int .i64 (most : Int), .slice none 0 0, .bool false]) rfl rfl R0.out.there size_rj (all_oneCell_toArray (one3j _ _ _ _ _)) ?_))
              have hd0 := R0.out.done [.int .i64 (most : Int), .slice none 0 0, .bool false] rfl
              refine bodyPost_ret (results_ctt rfl _ _ (w.heap.size + 2) 0 [.int .i64 (most : Int), .slice none 0 0, .bool false] _ rfl hd0.1 Try.underlying58 rfl size_rj) rfl ?_
              exact RPRet.err HE.out hd0.2
            · have k2 : ¬ (most : Int) < (0 : Int) + (k : Int) := by omega
              have k3 : ¬ (most : Int) < (k : Int) := by omega
              have hEE : E = 0 := by rw [hEd, if_neg (by omega)]
              have HE := Lib.hid (hR.trans (by rw [hEE, if_pos rfl]) : R = ((([] : List UInt8) ++ d, true), !true, 0))
              clear hEE hR hEd
              go_wp2_with fail
              refine calls_at_world (F := fun W => Below W0.heap.size W0 W ∧ Ps W W.heap.size (some ⟨W0.heap.size, 0, none⟩) 2 [([] : List UInt8), d]) ⟨alloc_below W0 _, ps_two (heap_alloc_new W0 _) (by rw [alloc_size]; omega) ((HB.out.1.below' (R0.out.bel.trans ((alloc_below W0 _).mono R0.out.bel.size)) hB0).more (by rw [alloc_size]; have := R0.out.bel.size; omega)) ((HB.out.2.1.below' (R0.out.bel.trans ((alloc_below W0 _).mono R0.out.bel.size)) hB0).more (by rw [alloc_size]; have := R0.out.bel.size; omega))⟩ fun W1 ⟨p1, p2⟩ => ?_
              have hjn := join_any (some ⟨W0.heap.size, 0, none⟩) 2 2 [([] : List UInt8), d] W1 W1.heap.size p2 (Nat.le_refl _) (by omega) (by have := HB.out.2.2; simp only [List.flatten_cons, List.flatten_nil, List.append_nil, List.length_append]; exact this)
              have R1 := Lib.hid (And.intro (R0.out.below p1) p1.size)
              clear p1 p2
              refine hjn.mono ?_
              rintro e w2 ⟨vJ, rfl, hoJ, bJ⟩
              rw [show [([] : List UInt8), d].flatten = ([] : List UInt8) ++ d by simp] at hoJ
              obtain ⟨nJ, hnJ⟩ : ∃ nJ, (([] : List UInt8) ++ d).length = nJ := ⟨_, rfl⟩
              rw [hnJ] at hoJ
              have hgeJ := own_ge hoJ
              obtain ⟨AJ, cJ, rfl, hcJ, hbJ⟩ := Bs.of_own hoJ
              have h2 := R1.out.1.below bJ
              have R2 := Lib.hid h2
              obtain ⟨y0, y1, y2⟩ := (⟨range_blk3 h2.j rfl 0 _ rfl, range_blk3 h2.j rfl 1 _ rfl, range_blk3 h2.j rfl 2 _ rfl⟩ : w2.cell? ⟨w.heap.size, 0 + 0, none⟩ = some (.int .i64 (most : Int)) ∧ w2.cell? ⟨w.heap.size, 0 + 1, none⟩ = some (.slice none 0 0) ∧ w2.cell? ⟨w.heap.size, 0 + 2, none⟩ = some (.bool true))
              rw [Nat.zero_add] at y0 y1 y2
              have z1 : w2.cell? ⟨w.heap.size + 1, 1, none⟩ = some (.bool true) := range_blk3 h2.b rfl 1 _ rfl
              have fz1 : w2.frozen? ⟨w.heap.size, 1, none⟩ = false := by simp [World.frozen?, h2.j]
              have fz2 : w2.frozen? ⟨w.heap.size, 2, none⟩ = false := by simp [World.frozen?, h2.j]
              have HJ2 := Lib.hid (And.intro hcJ (And.intro hbJ (And.intro hgeJ hnJ)))
              clear hjn hoJ bJ hcJ hbJ hgeJ hnJ h2 j0 j1 j2 b0 b1 b2 rf
              try dsimp only
              go_wp2_with fail
              refine wp_at_world (F := fun W => R4 w W most (.slice AJ nJ cJ) true 0 (Z : Int) true ∧ Bs W W.heap.size AJ nJ (([] : List UInt8) ++ d)) ⟨(R2.out.setJ _).setO true, ?_⟩ fun W4 ⟨p1, p2⟩ => ?_
              · have hk := ((Kp.refl w.heap.size none w2).setCell 1 (.slice AJ nJ cJ)).setCell 2 (.bool true)
                have := HJ2.out.2.1.kp hk (fun hp a ha => ⟨by
                  have h1 := HJ2.out.2.2.1 a.block (by rw [ha]; rfl)
                  have h3 := R1.out.2
                  have h4 := R0.out.size
                  omega, by simp⟩) (Nat.le_refl _)
                exact this.more hk.size
              have R4' := Lib.hid p1
              have B4 := Lib.hid p2
              obtain ⟨x0, x1, x2⟩ := (⟨range_blk3 p1.j rfl 0 _ rfl, range_blk3 p1.j rfl 1 _ rfl, range_blk3 p1.j rfl 2 _ rfl⟩ : W4.cell? ⟨w.heap.size, 0 + 0, none⟩ = some (.int .i64 (most : Int)) ∧ W4.cell? ⟨w.heap.size, 0 + 1, none⟩ = some (.slice AJ nJ cJ) ∧ W4.cell? ⟨w.heap.size, 0 + 2, none⟩ = some (.bool true))
              rw [Nat.zero_add] at x0 x1 x2
              have x3 : W4.cell? ⟨w.heap.size + 1, 1, none⟩ = some (.bool true) := range_blk3 p1.b rfl 1 _ rfl
              clear p1 p2 y0 y1 y2 z1 fz1 fz2
              go_wp2_with fail
              refine wp_region_rel2 (S15 w W4.heap.size most AJ nJ cJ (([] : List UInt8) ++ d) true 0 (Z : Int)) (fun W W' => W.rangeAt (w.heap.size + 2) 0 [.int .i64 (most : Int), .slice AJ nJ cJ, .bool true] → W'.rangeAt (w.heap.size + 2) 0 [.int .i64 (most : Int), .slice AJ nJ cJ, .bool true]) (BpR w.heap.size [.int .i64 (most : Int), .slice AJ nJ cJ, .bool true] true false) [(3, .pointer (some ⟨w.heap.size, 0, none⟩)), (4, .pointer (some ⟨w.heap.size + 1, 0, none⟩)), (6, .pointer (some ⟨w.heap.size + 2, 0, none⟩))] (by kernel_rfl) (by kernel_rfl) (by kernel_rfl) ?base ?first (fun i W W' v hT h => BpR.grow i W W' v hT h) ?steps ?fin
              case base =>
                intro x hx
                simp only [List.mem_cons, List.not_mem_nil, or_false] at hx
                rcases hx with rfl | rfl | rfl <;> exact ⟨rfl, rfl⟩
              case first =>
                have hh := R4'.out
                exact ⟨hh.bel.trans (Below.drew (Below.refl _ _)), rfl, hh.j, hh.b, hh.there, B4.out.below (Below.drew (Below.refl _ _)), fun a ha => by
                  have h1 := HJ2.out.2.2.1 a.block (by rw [ha]; rfl)
                  have h3 := R1.out.2
                  have h4 := R0.out.size
                  omega⟩
              case steps =>
                clear x0 x1 x2 x3
                refine steps_cons ?_ (steps_cons ?_ (steps_cons ?_ (steps_cons ?_ (steps_cons ?_ (steps_cons ?_ (steps_cons ?_ steps_nil))))))
                · intro a wx K hS hB hR hK
                  rw [if_pos (wanted_none rfl)]
                  have h3 := tmp_is (hB.1)
                  obtain ⟨d0, d1, d2⟩ := three (range_blk3 hS.j rfl)
                  go_simp
                  exact hK (.agg #[.int .i64 (most : Int), .slice AJ nJ cJ, .bool true]) wx hS (fun h => h) rfl
                · intro a wx K hS hB hR hK
                  rw [if_pos (wanted_none rfl)]
                  have h4 := tmp_is (hB.2.1)
                  go_simp
                  exact hK (.pointer (some ⟨w.heap.size + 1, 1, none⟩)) wx hS (fun h => h) rfl
                · intro a wx K hS hB hR hK
                  rw [if_pos (wanted_none rfl)]
                  have h77 := tmp_is (hR.1)
                  obtain ⟨d0, d1, d2⟩ := three (range_blk3 hS.b rfl)
                  go_simp
                  exact hK (.bool true) wx hS (fun h => h) rfl
                · intro a wx K hS hB hR hK
                  rw [if_pos (wanted_none rfl)]
                  have h78 := tmp_is (hR.1)
                  go_simp
                  exact hK (.bool false) wx hS (fun h => h) rfl
                · intro a wx K hS hB hR hK
                  rw [if_pos (wanted_none rfl)]
                  have hst := hS.stored [.int .i64 (most : Int), .slice AJ nJ cJ, .bool true] rfl
                  refine wp_store_mid 58 (.tmp 6) (.tmp 76) (by rfl) (w.heap.size + 2) 0 #[.int .i64 (most : Int), .slice AJ nJ cJ, .bool true] (hB.2.2.1) (hR.1) hS.there size_rj (all_oneCell_toArray (one3j _ _ _ _ _)) ?_
                  exact hK undef _ hst.1 (fun _ => hst.2) hst.2
                · intro a wx K hS hB hR hK
                  rw [if_pos (wanted_none rfl)]
                  have h79 := tmp_is (hR.1)
                  go_simp
                  exact hK (.bool false) wx hS (fun h => h) rfl
                · intro a wx K hS hB hR hK
                  rw [if_pos (wanted_none rfl)]
                  go_simp
                  exact hK (.int .i64 0) wx hS (fun h => h) rfl
              case fin =>
                intro a w9 hS9 ha hR
                have h4 : w9.rangeAt (w.heap.size + 2) 0 [.int .i64 (most : Int), .slice AJ nJ cJ, .bool true] := deps_mem _ hR 4 (by decide)
                have h5 : a.eval (.tmp 7) = .bool false := deps_mem _ hR 5 (by decide)
                have h6 : a.eval (.tmp 8) = .int .i64 0 := deps_mem _ hR 6 (by decide)
                have H9 := Lib.hid (And.intro hS9 h4)
                clear hR hS9 h4
                simp only [pin] at ha
                rw [ha]
                simp only [List.setIfInBounds_toArray, List.set_cons_zero, List.set_cons_succ, h5, h6]
                clear ha h5 h6
                go_wp2
                refine bodyPost_ret (results_ctt rfl _ _ (w.heap.size + 2) 0 [.int .i64 (most : Int), .slice AJ nJ cJ, .bool true] _ rfl H9.out.2 Try.underlying58 rfl size_rj) rfl ?_
                rw [HE.out]
                exact ⟨AJ, nJ, cJ, rfl, HJ2.out.1, HJ2.out.2.2.2.symm, H9.out.1.bs.more (Nat.le_of_eq H9.out.1.size.symm), fun a ha => by
                  have h1 := H9.out.1.ge a ha
                  omega, H9.out.1.bel⟩
        | false =>
          rw [if_neg (by rintro (h | ⟨h, _⟩); exact k0 h; cases h)] at hEd
          by_cases hmk : most < 0 + k
          · have k2 : (most : Int) < (0 : Int) + (k : Int) := by omega
            have k3 : (most : Int) < (k : Int) := by omega
            have hEE : E = 2 := by rw [hEd, if_pos hmk]
            have HE := Lib.hid (hR.trans (by rw [hEE, if_neg (by decide)]))
            clear hEE hR hEd
            go_upto_region 12 with fail
            go_wp2_with (first
              | (refine wpList_load_mid rfl 58 (.tmp 9) rfl (w.heap.size + 3) 0 rfl [.int .i64 (most : Int), .slice none 0 0, .bool false] _ rf Try.underlying58 rfl size_rj ?_)
              | (refine wpList_store_mid rfl 58 (.tmp 6) (.tmp 66) rfl (w.heap.size + 2) 0 (List.toArray [.int .i64 (most : Int), .slice none 0 0, .bool false]) rfl rfl R0.out.there size_rj (all_oneCell_toArray (one3j _ _ _ _ _)) ?_))
            have hd0 := R0.out.done [.int .i64 (most : Int), .slice none 0 0, .bool false] rfl
            refine bodyPost_ret (results_ctt rfl _ _ (w.heap.size + 2) 0 [.int .i64 (most : Int), .slice none 0 0, .bool false] _ rfl hd0.1 Try.underlying58 rfl size_rj) rfl ?_
            exact RPRet.err HE.out hd0.2
          · have k2 : ¬ (most : Int) < (0 : Int) + (k : Int) := by omega
            have k3 : ¬ (most : Int) < (k : Int) := by omega
            have hEE : E = 0 := by rw [hEd, if_neg (by omega)]
            have HE := Lib.hid (hR.trans (by rw [hEE, if_pos rfl]) : R = ((([] : List UInt8) ++ d, false), !false, 0))
            clear hEE hR hEd
            go_wp2_with fail
            refine calls_at_world (F := fun W => Below W0.heap.size W0 W ∧ Ps W W.heap.size (some ⟨W0.heap.size, 0, none⟩) 2 [([] : List UInt8), d]) ⟨alloc_below W0 _, ps_two (heap_alloc_new W0 _) (by rw [alloc_size]; omega) ((HB.out.1.below' (R0.out.bel.trans ((alloc_below W0 _).mono R0.out.bel.size)) hB0).more (by rw [alloc_size]; have := R0.out.bel.size; omega)) ((HB.out.2.1.below' (R0.out.bel.trans ((alloc_below W0 _).mono R0.out.bel.size)) hB0).more (by rw [alloc_size]; have := R0.out.bel.size; omega))⟩ fun W1 ⟨p1, p2⟩ => ?_
            have hjn := join_any (some ⟨W0.heap.size, 0, none⟩) 2 2 [([] : List UInt8), d] W1 W1.heap.size p2 (Nat.le_refl _) (by omega) (by have := HB.out.2.2; simp only [List.flatten_cons, List.flatten_nil, List.append_nil, List.length_append]; exact this)
            have R1 := Lib.hid (And.intro (R0.out.below p1) p1.size)
            clear p1 p2
            refine hjn.mono ?_
            rintro e w2 ⟨vJ, rfl, hoJ, bJ⟩
            rw [show [([] : List UInt8), d].flatten = ([] : List UInt8) ++ d by simp] at hoJ
            obtain ⟨nJ, hnJ⟩ : ∃ nJ, (([] : List UInt8) ++ d).length = nJ := ⟨_, rfl⟩
            rw [hnJ] at hoJ
            have hgeJ := own_ge hoJ
            obtain ⟨AJ, cJ, rfl, hcJ, hbJ⟩ := Bs.of_own hoJ
            have h2 := R1.out.1.below bJ
            have R2 := Lib.hid h2
            obtain ⟨y0, y1, y2⟩ := (⟨range_blk3 h2.j rfl 0 _ rfl, range_blk3 h2.j rfl 1 _ rfl, range_blk3 h2.j rfl 2 _ rfl⟩ : w2.cell? ⟨w.heap.size, 0 + 0, none⟩ = some (.int .i64 (most : Int)) ∧ w2.cell? ⟨w.heap.size, 0 + 1, none⟩ = some (.slice none 0 0) ∧ w2.cell? ⟨w.heap.size, 0 + 2, none⟩ = some (.bool true))
            rw [Nat.zero_add] at y0 y1 y2
            have z1 : w2.cell? ⟨w.heap.size + 1, 1, none⟩ = some (.bool false) := range_blk3 h2.b rfl 1 _ rfl
            have fz1 : w2.frozen? ⟨w.heap.size, 1, none⟩ = false := by simp [World.frozen?, h2.j]
            have fz2 : w2.frozen? ⟨w.heap.size, 2, none⟩ = false := by simp [World.frozen?, h2.j]
            have HJ2 := Lib.hid (And.intro hcJ (And.intro hbJ (And.intro hgeJ hnJ)))
            clear hjn hoJ bJ hcJ hbJ hgeJ hnJ h2 j0 j1 j2 b0 b1 b2 rf
            try dsimp only
            go_wp2_with fail
            refine wp_at_world (F := fun W => R4 w W most (.slice AJ nJ cJ) false 0 (Z : Int) false ∧ Bs W W.heap.size AJ nJ (([] : List UInt8) ++ d)) ⟨(R2.out.setJ _).setO false, ?_⟩ fun W4 ⟨p1, p2⟩ => ?_
            · have hk := ((Kp.refl w.heap.size none w2).setCell 1 (.slice AJ nJ cJ)).setCell 2 (.bool false)
              have := HJ2.out.2.1.kp hk (fun hp a ha => ⟨by
                have h1 := HJ2.out.2.2.1 a.block (by rw [ha]; rfl)
                have h3 := R1.out.2
                have h4 := R0.out.size
                omega, by simp⟩) (Nat.le_refl _)
              exact this.more hk.size
            have R4' := Lib.hid p1
            have B4 := Lib.hid p2
            obtain ⟨x0, x1, x2⟩ := (⟨range_blk3 p1.j rfl 0 _ rfl, range_blk3 p1.j rfl 1 _ rfl, range_blk3 p1.j rfl 2 _ rfl⟩ : W4.cell? ⟨w.heap.size, 0 + 0, none⟩ = some (.int .i64 (most : Int)) ∧ W4.cell? ⟨w.heap.size, 0 + 1, none⟩ = some (.slice AJ nJ cJ) ∧ W4.cell? ⟨w.heap.size, 0 + 2, none⟩ = some (.bool false))
            rw [Nat.zero_add] at x0 x1 x2
            have x3 : W4.cell? ⟨w.heap.size + 1, 1, none⟩ = some (.bool false) := range_blk3 p1.b rfl 1 _ rfl
            clear p1 p2 y0 y1 y2 z1 fz1 fz2
            go_wp2_with fail
            refine wp_region_rel2 (S15 w W4.heap.size most AJ nJ cJ (([] : List UInt8) ++ d) false 0 (Z : Int)) (fun W W' => W.rangeAt (w.heap.size + 2) 0 [.int .i64 (most : Int), .slice AJ nJ cJ, .bool false] → W'.rangeAt (w.heap.size + 2) 0 [.int .i64 (most : Int), .slice AJ nJ cJ, .bool false]) (BpR w.heap.size [.int .i64 (most : Int), .slice AJ nJ cJ, .bool false] false true) [(3, .pointer (some ⟨w.heap.size, 0, none⟩)), (4, .pointer (some ⟨w.heap.size + 1, 0, none⟩)), (6, .pointer (some ⟨w.heap.size + 2, 0, none⟩))] (by kernel_rfl) (by kernel_rfl) (by kernel_rfl) ?base ?first (fun i W W' v hT h => BpR.grow i W W' v hT h) ?steps ?fin
            case base =>
              intro x hx
              simp only [List.mem_cons, List.not_mem_nil, or_false] at hx
              rcases hx with rfl | rfl | rfl <;> exact ⟨rfl, rfl⟩
            case first =>
              have hh := R4'.out
              exact ⟨hh.bel.trans (Below.drew (Below.refl _ _)), rfl, hh.j, hh.b, hh.there, B4.out.below (Below.drew (Below.refl _ _)), fun a ha => by
                have h1 := HJ2.out.2.2.1 a.block (by rw [ha]; rfl)
                have h3 := R1.out.2
                have h4 := R0.out.size
                omega⟩
            case steps =>
              clear x0 x1 x2 x3
              refine steps_cons ?_ (steps_cons ?_ (steps_cons ?_ (steps_cons ?_ (steps_cons ?_ (steps_cons ?_ (steps_cons ?_ steps_nil))))))
              · intro a wx K hS hB hR hK
                rw [if_pos (wanted_none rfl)]
                have h3 := tmp_is (hB.1)
                obtain ⟨d0, d1, d2⟩ := three (range_blk3 hS.j rfl)
                go_simp
                exact hK (.agg #[.int .i64 (most : Int), .slice AJ nJ cJ, .bool false]) wx hS (fun h => h) rfl
              · intro a wx K hS hB hR hK
                rw [if_pos (wanted_none rfl)]
                have h4 := tmp_is (hB.2.1)
                go_simp
                exact hK (.pointer (some ⟨w.heap.size + 1, 1, none⟩)) wx hS (fun h => h) rfl
              · intro a wx K hS hB hR hK
                rw [if_pos (wanted_none rfl)]
                have h77 := tmp_is (hR.1)
                obtain ⟨d0, d1, d2⟩ := three (range_blk3 hS.b rfl)
                go_simp
                exact hK (.bool false) wx hS (fun h => h) rfl
              · intro a wx K hS hB hR hK
                rw [if_pos (wanted_none rfl)]
                have h78 := tmp_is (hR.1)
                go_simp
                exact hK (.bool true) wx hS (fun h => h) rfl
              · intro a wx K hS hB hR hK
                rw [if_pos (wanted_none rfl)]
                have hst := hS.stored [.int .i64 (most : Int), .slice AJ nJ cJ, .bool false] rfl
                refine wp_store_mid 58 (.tmp 6) (.tmp 76) (by rfl) (w.heap.size + 2) 0 #[.int .i64 (most : Int), .slice AJ nJ cJ, .bool false] (hB.2.2.1) (hR.1) hS.there size_rj (all_oneCell_toArray (one3j _ _ _ _ _)) ?_
                exact hK undef _ hst.1 (fun _ => hst.2) hst.2
              · intro a wx K hS hB hR hK
                rw [if_pos (wanted_none rfl)]
                have h79 := tmp_is (hR.1)
                go_simp
                exact hK (.bool true) wx hS (fun h => h) rfl
              · intro a wx K hS hB hR hK
                rw [if_pos (wanted_none rfl)]
                go_simp
                exact hK (.int .i64 0) wx hS (fun h => h) rfl
            case fin =>
              intro a w9 hS9 ha hR
              have h4 : w9.rangeAt (w.heap.size + 2) 0 [.int .i64 (most : Int), .slice AJ nJ cJ, .bool false] := deps_mem _ hR 4 (by decide)
              have h5 : a.eval (.tmp 7) = .bool true := deps_mem _ hR 5 (by decide)
              have h6 : a.eval (.tmp 8) = .int .i64 0 := deps_mem _ hR 6 (by decide)
              have H9 := Lib.hid (And.intro hS9 h4)
              clear hR hS9 h4
              simp only [pin] at ha
              rw [ha]
              simp only [List.setIfInBounds_toArray, List.set_cons_zero, List.set_cons_succ, h5, h6]
              clear ha h5 h6
              go_wp2
              refine bodyPost_ret (results_ctt rfl _ _ (w.heap.size + 2) 0 [.int .i64 (most : Int), .slice AJ nJ cJ, .bool false] _ rfl H9.out.2 Try.underlying58 rfl size_rj) rfl ?_
              rw [HE.out]
              exact ⟨AJ, nJ, cJ, rfl, HJ2.out.1, HJ2.out.2.2.2.symm, H9.out.1.bs.more (Nat.le_of_eq H9.out.1.size.symm), fun a ha => by
                have h1 := H9.out.1.ge a ha
                omega, H9.out.1.bel⟩
  · have hn0 : (n == 0) = false := beq_eq_false_iff_ne.2 hn
    obtain ⟨E, hE⟩ : ∃ E, rchk most l on n z m k = E := ⟨_, rfl⟩
    have hR : R = if E = 0 then ((l ++ d, m), !m, 0) else (([], false), false, E) := by rw [← hRR, ← hE]; unfold rput; rw [if_neg hn, if_neg hn, hdl]
    have hEd : E = if rightB n z = false then 1 else if on = false ∨ n * z ≠ (q : Int) then 4 else if z < (k : Int) ∨ (m = true ∧ (k : Int) < z) then 20 else if most < q + k then 2 else 0 := by rw [← hE]; unfold rchk; rw [hql]
    have hj := R4.made w most (.slice A q c) on n z m
    have HJ := Lib.hid hj
    have HB := Lib.hid (And.intro hbs (And.intro hd (show l.length + d.length ≤ 65536 by rw [hdl]; exact hlk)))
    have HEd := Lib.hid (And.intro hR hEd)
    clear hj hE hRR hbs hd hql hdl hR hEd
    go_enter Try.func25, Try.ntmps25
    go_wp2_with fail
    refine calls_at_world (F := fun W => R4 w W most (.slice A q c) on n z m) HJ.out fun W0 h0 => ?_
    have R0 := Lib.hid h0
    obtain ⟨j0, j1, j2⟩ := (⟨range_blk3 h0.j rfl 0 _ rfl, range_blk3 h0.j rfl 1 _ rfl, range_blk3 h0.j rfl 2 _ rfl⟩ : W0.cell? ⟨w.heap.size, 0 + 0, none⟩ = some (.int .i64 (most : Int)) ∧ W0.cell? ⟨w.heap.size, 0 + 1, none⟩ = some (.slice A q c) ∧ W0.cell? ⟨w.heap.size, 0 + 2, none⟩ = some (.bool on))
    obtain ⟨b0, b1, b2⟩ := (⟨range_blk3 h0.b rfl 0 _ rfl, range_blk3 h0.b rfl 1 _ rfl, range_blk3 h0.b rfl 2 _ rfl⟩ : W0.cell? ⟨w.heap.size + 1, 0 + 0, none⟩ = some (.int .i64 n) ∧ W0.cell? ⟨w.heap.size + 1, 0 + 1, none⟩ = some (.bool m) ∧ W0.cell? ⟨w.heap.size + 1, 0 + 2, none⟩ = some (.int .i64 z))
    rw [Nat.zero_add] at j0 j1 j2 b0 b1 b2
    have rf := range_blk3 h0.f rfl
    clear h0 HJ
    refine (hir W0).mono ?_
    rintro e w1 ⟨rfl, hw⟩
    obtain rfl := hw.symm
    clear hir hw
    have hR := HEd.out.1
    have hEd := HEd.out.2
    clear HEd
    cases hrt : rightB n z with
    | false =>
      have hEE : E = 1 := by rw [hEd, if_pos hrt]
      have HE := Lib.hid (hR.trans (by rw [hEE, if_neg (by decide)]))
      clear hEE hR hEd hrt
      go_upto_region 6 with fail
      go_wp2_with (first
        | (refine wpList_load_mid rfl 58 (.tmp 9) rfl (w.heap.size + 3) 0 rfl [.int .i64 (most : Int), .slice none 0 0, .bool false] _ rf Try.underlying58 rfl size_rj ?_)
        | (refine wpList_store_mid rfl 58 (.tmp 6) (.tmp 24) rfl (w.heap.size + 2) 0 (List.toArray [.int .i64 (most : Int), .slice none 0 0, .bool false]) rfl rfl R0.out.there size_rj (all_oneCell_toArray (one3j _ _ _ _ _)) ?_))
      have hd0 := R0.out.done [.int .i64 (most : Int), .slice none 0 0, .bool false] rfl
      refine bodyPost_ret (results_ctt rfl _ _ (w.heap.size + 2) 0 [.int .i64 (most : Int), .slice none 0 0, .bool false] _ rfl hd0.1 Try.underlying58 rfl size_rj) rfl ?_
      exact RPRet.err HE.out hd0.2
    | true =>
      obtain ⟨N0, Z, T, hNN, rfl, hN, hZ0, hZ1, hT, hTm, hT0, _⟩ := right_nat hrt
      subst hNN
      rw [if_neg (by rw [hrt]; simp)] at hEd
      have hTI : (T : Int) ≤ 1073740800 := by omega
      have hZI : (Z : Int) ≤ 1024 := by omega
      have hNI : (N0 : Int) ≤ 1048575 := by omega
      rw [hT] at hEd
      clear hT0 hrt hTm hN
      cases on with
      | false =>
        have hEE : E = 4 := by rw [hEd, if_pos (.inl rfl)]
        have HE := Lib.hid (hR.trans (by rw [hEE, if_neg (by decide)]))
        clear hEE hR hEd
        go_upto_region 8 with fail
        go_wp2_with (first
          | (refine wpList_load_mid rfl 58 (.tmp 9) rfl (w.heap.size + 3) 0 rfl [.int .i64 (most : Int), .slice none 0 0, .bool false] _ rf Try.underlying58 rfl size_rj ?_)
          | (refine wpList_store_mid rfl 58 (.tmp 6) (.tmp 39) rfl (w.heap.size + 2) 0 (List.toArray [.int .i64 (most : Int), .slice none 0 0, .bool false]) rfl rfl R0.out.there size_rj (all_oneCell_toArray (one3j _ _ _ _ _)) ?_))
        have hd0 := R0.out.done [.int .i64 (most : Int), .slice none 0 0, .bool false] rfl
        refine bodyPost_ret (results_ctt rfl _ _ (w.heap.size + 2) 0 [.int .i64 (most : Int), .slice none 0 0, .bool false] _ rfl hd0.1 Try.underlying58 rfl size_rj) rfl ?_
        exact RPRet.err HE.out hd0.2
      | true =>
        by_cases hTq : T = q
        · have t0 : ((T : Int) != (q : Int)) = false := by rw [hTq]; simp
          rw [if_neg (by rintro (h | h); cases h; exact h (by rw [hTq]))] at hEd
          clear hTq
          by_cases hkZ : Z < k
          · have k0 : (Z : Int) < k := by omega
            rw [if_pos (.inl k0)] at hEd
            have hEE : E = 20 := hEd
            have HE := Lib.hid (hR.trans (by rw [hEE, if_neg (by decide)]))
            clear hEE hR hEd
            go_upto_region 10 with fail
            go_wp2_with (first
              | (refine wpList_load_mid rfl 58 (.tmp 9) rfl (w.heap.size + 3) 0 rfl [.int .i64 (most : Int), .slice none 0 0, .bool false] _ rf Try.underlying58 rfl size_rj ?_)
              | (refine wpList_store_mid rfl 58 (.tmp 6) (.tmp 56) rfl (w.heap.size + 2) 0 (List.toArray [.int .i64 (most : Int), .slice none 0 0, .bool false]) rfl rfl R0.out.there size_rj (all_oneCell_toArray (one3j _ _ _ _ _)) ?_))
            have hd0 := R0.out.done [.int .i64 (most : Int), .slice none 0 0, .bool false] rfl
            refine bodyPost_ret (results_ctt rfl _ _ (w.heap.size + 2) 0 [.int .i64 (most : Int), .slice none 0 0, .bool false] _ rfl hd0.1 Try.underlying58 rfl size_rj) rfl ?_
            exact RPRet.err HE.out hd0.2
          · have k0 : ¬ (Z : Int) < k := by omega
            cases m with
            | true =>
              by_cases hk2 : k < Z
              · have k1 : (k : Int) < Z := by omega
                rw [if_pos (.inr ⟨rfl, k1⟩)] at hEd
                have hEE : E = 20 := hEd
                have HE := Lib.hid (hR.trans (by rw [hEE, if_neg (by decide)]))
                clear hEE hR hEd
                go_upto_region 10 with fail
                go_wp2_with (first
                  | (refine wpList_load_mid rfl 58 (.tmp 9) rfl (w.heap.size + 3) 0 rfl [.int .i64 (most : Int), .slice none 0 0, .bool false] _ rf Try.underlying58 rfl size_rj ?_)
                  | (refine wpList_store_mid rfl 58 (.tmp 6) (.tmp 56) rfl (w.heap.size + 2) 0 (List.toArray [.int .i64 (most : Int), .slice none 0 0, .bool false]) rfl rfl R0.out.there size_rj (all_oneCell_toArray (one3j _ _ _ _ _)) ?_))
                have hd0 := R0.out.done [.int .i64 (most : Int), .slice none 0 0, .bool false] rfl
                refine bodyPost_ret (results_ctt rfl _ _ (w.heap.size + 2) 0 [.int .i64 (most : Int), .slice none 0 0, .bool false] _ rfl hd0.1 Try.underlying58 rfl size_rj) rfl ?_
                exact RPRet.err HE.out hd0.2
              · have k1 : ¬ (k : Int) < Z := by omega
                rw [if_neg (by rintro (h | ⟨_, h⟩); exact k0 h; exact k1 h)] at hEd
                by_cases hmk : most < q + k
                · have k2 : (most : Int) < (q : Int) + (k : Int) := by omega
                  skip
                  have hEE : E = 2 := by rw [hEd, if_pos hmk]
                  have HE := Lib.hid (hR.trans (by rw [hEE, if_neg (by decide)]))
                  clear hEE hR hEd
                  go_upto_region 12 with fail
                  go_wp2_with (first
                    | (refine wpList_load_mid rfl 58 (.tmp 9) rfl (w.heap.size + 3) 0 rfl [.int .i64 (most : Int), .slice none 0 0, .bool false] _ rf Try.underlying58 rfl size_rj ?_)
                    | (refine wpList_store_mid rfl 58 (.tmp 6) (.tmp 66) rfl (w.heap.size + 2) 0 (List.toArray [.int .i64 (most : Int), .slice none 0 0, .bool false]) rfl rfl R0.out.there size_rj (all_oneCell_toArray (one3j _ _ _ _ _)) ?_))
                  have hd0 := R0.out.done [.int .i64 (most : Int), .slice none 0 0, .bool false] rfl
                  refine bodyPost_ret (results_ctt rfl _ _ (w.heap.size + 2) 0 [.int .i64 (most : Int), .slice none 0 0, .bool false] _ rfl hd0.1 Try.underlying58 rfl size_rj) rfl ?_
                  exact RPRet.err HE.out hd0.2
                · have k2 : ¬ (most : Int) < (q : Int) + (k : Int) := by omega
                  skip
                  have hEE : E = 0 := by rw [hEd, if_neg (by omega)]
                  have HE := Lib.hid (hR.trans (by rw [hEE, if_pos rfl]) : R = ((l ++ d, true), !true, 0))
                  clear hEE hR hEd
                  go_wp2_with fail
                  refine calls_at_world (F := fun W => Below W0.heap.size W0 W ∧ Ps W W.heap.size (some ⟨W0.heap.size, 0, none⟩) 2 [l, d]) ⟨alloc_below W0 _, ps_two (heap_alloc_new W0 _) (by rw [alloc_size]; omega) ((HB.out.1.below' (R0.out.bel.trans ((alloc_below W0 _).mono R0.out.bel.size)) hB0).more (by rw [alloc_size]; have := R0.out.bel.size; omega)) ((HB.out.2.1.below' (R0.out.bel.trans ((alloc_below W0 _).mono R0.out.bel.size)) hB0).more (by rw [alloc_size]; have := R0.out.bel.size; omega))⟩ fun W1 ⟨p1, p2⟩ => ?_
                  have hjn := join_any (some ⟨W0.heap.size, 0, none⟩) 2 2 [l, d] W1 W1.heap.size p2 (Nat.le_refl _) (by omega) (by have := HB.out.2.2; simp only [List.flatten_cons, List.flatten_nil, List.append_nil, List.length_append]; exact this)
                  have R1 := Lib.hid (And.intro (R0.out.below p1) p1.size)
                  clear p1 p2
                  refine hjn.mono ?_
                  rintro e w2 ⟨vJ, rfl, hoJ, bJ⟩
                  rw [show [l, d].flatten = l ++ d by simp] at hoJ
                  obtain ⟨nJ, hnJ⟩ : ∃ nJ, (l ++ d).length = nJ := ⟨_, rfl⟩
                  rw [hnJ] at hoJ
                  have hgeJ := own_ge hoJ
                  obtain ⟨AJ, cJ, rfl, hcJ, hbJ⟩ := Bs.of_own hoJ
                  have h2 := R1.out.1.below bJ
                  have R2 := Lib.hid h2
                  obtain ⟨y0, y1, y2⟩ := (⟨range_blk3 h2.j rfl 0 _ rfl, range_blk3 h2.j rfl 1 _ rfl, range_blk3 h2.j rfl 2 _ rfl⟩ : w2.cell? ⟨w.heap.size, 0 + 0, none⟩ = some (.int .i64 (most : Int)) ∧ w2.cell? ⟨w.heap.size, 0 + 1, none⟩ = some (.slice A q c) ∧ w2.cell? ⟨w.heap.size, 0 + 2, none⟩ = some (.bool true))
                  rw [Nat.zero_add] at y0 y1 y2
                  have z1 : w2.cell? ⟨w.heap.size + 1, 1, none⟩ = some (.bool true) := range_blk3 h2.b rfl 1 _ rfl
                  have fz1 : w2.frozen? ⟨w.heap.size, 1, none⟩ = false := by simp [World.frozen?, h2.j]
                  have fz2 : w2.frozen? ⟨w.heap.size, 2, none⟩ = false := by simp [World.frozen?, h2.j]
                  have HJ2 := Lib.hid (And.intro hcJ (And.intro hbJ (And.intro hgeJ hnJ)))
                  clear hjn hoJ bJ hcJ hbJ hgeJ hnJ h2 j0 j1 j2 b0 b1 b2 rf
                  try dsimp only
                  go_wp2_with fail
                  refine wp_at_world (F := fun W => R4 w W most (.slice AJ nJ cJ) true (N0 : Int) (Z : Int) true ∧ Bs W W.heap.size AJ nJ (l ++ d)) ⟨(R2.out.setJ _).setO true, ?_⟩ fun W4 ⟨p1, p2⟩ => ?_
                  · have hk := ((Kp.refl w.heap.size none w2).setCell 1 (.slice AJ nJ cJ)).setCell 2 (.bool true)
                    have := HJ2.out.2.1.kp hk (fun hp a ha => ⟨by
                      have h1 := HJ2.out.2.2.1 a.block (by rw [ha]; rfl)
                      have h3 := R1.out.2
                      have h4 := R0.out.size
                      omega, by simp⟩) (Nat.le_refl _)
                    exact this.more hk.size
                  have R4' := Lib.hid p1
                  have B4 := Lib.hid p2
                  obtain ⟨x0, x1, x2⟩ := (⟨range_blk3 p1.j rfl 0 _ rfl, range_blk3 p1.j rfl 1 _ rfl, range_blk3 p1.j rfl 2 _ rfl⟩ : W4.cell? ⟨w.heap.size, 0 + 0, none⟩ = some (.int .i64 (most : Int)) ∧ W4.cell? ⟨w.heap.size, 0 + 1, none⟩ = some (.slice AJ nJ cJ) ∧ W4.cell? ⟨w.heap.size, 0 + 2, none⟩ = some (.bool true))
                  rw [Nat.zero_add] at x0 x1 x2
                  have x3 : W4.cell? ⟨w.heap.size + 1, 1, none⟩ = some (.bool true) := range_blk3 p1.b rfl 1 _ rfl
                  clear p1 p2 y0 y1 y2 z1 fz1 fz2
                  go_wp2_with fail
                  refine wp_region_rel2 (S15 w W4.heap.size most AJ nJ cJ (l ++ d) true (N0 : Int) (Z : Int)) (fun W W' => W.rangeAt (w.heap.size + 2) 0 [.int .i64 (most : Int), .slice AJ nJ cJ, .bool true] → W'.rangeAt (w.heap.size + 2) 0 [.int .i64 (most : Int), .slice AJ nJ cJ, .bool true]) (BpR w.heap.size [.int .i64 (most : Int), .slice AJ nJ cJ, .bool true] true false) [(3, .pointer (some ⟨w.heap.size, 0, none⟩)), (4, .pointer (some ⟨w.heap.size + 1, 0, none⟩)), (6, .pointer (some ⟨w.heap.size + 2, 0, none⟩))] (by kernel_rfl) (by kernel_rfl) (by kernel_rfl) ?base ?first (fun i W W' v hT h => BpR.grow i W W' v hT h) ?steps ?fin
                  case base =>
                    intro x hx
                    simp only [List.mem_cons, List.not_mem_nil, or_false] at hx
                    rcases hx with rfl | rfl | rfl <;> exact ⟨rfl, rfl⟩
                  case first =>
                    have hh := R4'.out
                    exact ⟨hh.bel.trans (Below.drew (Below.refl _ _)), rfl, hh.j, hh.b, hh.there, B4.out.below (Below.drew (Below.refl _ _)), fun a ha => by
                      have h1 := HJ2.out.2.2.1 a.block (by rw [ha]; rfl)
                      have h3 := R1.out.2
                      have h4 := R0.out.size
                      omega⟩
                  case steps =>
                    clear x0 x1 x2 x3
                    refine steps_cons ?_ (steps_cons ?_ (steps_cons ?_ (steps_cons ?_ (steps_cons ?_ (steps_cons ?_ (steps_cons ?_ steps_nil))))))
                    · intro a wx K hS hB hR hK
                      rw [if_pos (wanted_none rfl)]
                      have h3 := tmp_is (hB.1)
                      obtain ⟨d0, d1, d2⟩ := three (range_blk3 hS.j rfl)
                      go_simp
                      exact hK (.agg #[.int .i64 (most : Int), .slice AJ nJ cJ, .bool true]) wx hS (fun h => h) rfl
                    · intro a wx K hS hB hR hK
                      rw [if_pos (wanted_none rfl)]
                      have h4 := tmp_is (hB.2.1)
                      go_simp
                      exact hK (.pointer (some ⟨w.heap.size + 1, 1, none⟩)) wx hS (fun h => h) rfl
                    · intro a wx K hS hB hR hK
                      rw [if_pos (wanted_none rfl)]
                      have h77 := tmp_is (hR.1)
                      obtain ⟨d0, d1, d2⟩ := three (range_blk3 hS.b rfl)
                      go_simp
                      exact hK (.bool true) wx hS (fun h => h) rfl
                    · intro a wx K hS hB hR hK
                      rw [if_pos (wanted_none rfl)]
                      have h78 := tmp_is (hR.1)
                      go_simp
                      exact hK (.bool false) wx hS (fun h => h) rfl
                    · intro a wx K hS hB hR hK
                      rw [if_pos (wanted_none rfl)]
                      have hst := hS.stored [.int .i64 (most : Int), .slice AJ nJ cJ, .bool true] rfl
                      refine wp_store_mid 58 (.tmp 6) (.tmp 76) (by rfl) (w.heap.size + 2) 0 #[.int .i64 (most : Int), .slice AJ nJ cJ, .bool true] (hB.2.2.1) (hR.1) hS.there size_rj (all_oneCell_toArray (one3j _ _ _ _ _)) ?_
                      exact hK undef _ hst.1 (fun _ => hst.2) hst.2
                    · intro a wx K hS hB hR hK
                      rw [if_pos (wanted_none rfl)]
                      have h79 := tmp_is (hR.1)
                      go_simp
                      exact hK (.bool false) wx hS (fun h => h) rfl
                    · intro a wx K hS hB hR hK
                      rw [if_pos (wanted_none rfl)]
                      go_simp
                      exact hK (.int .i64 0) wx hS (fun h => h) rfl
                  case fin =>
                    intro a w9 hS9 ha hR
                    have h4 : w9.rangeAt (w.heap.size + 2) 0 [.int .i64 (most : Int), .slice AJ nJ cJ, .bool true] := deps_mem _ hR 4 (by decide)
                    have h5 : a.eval (.tmp 7) = .bool false := deps_mem _ hR 5 (by decide)
                    have h6 : a.eval (.tmp 8) = .int .i64 0 := deps_mem _ hR 6 (by decide)
                    have H9 := Lib.hid (And.intro hS9 h4)
                    clear hR hS9 h4
                    simp only [pin] at ha
                    rw [ha]
                    simp only [List.setIfInBounds_toArray, List.set_cons_zero, List.set_cons_succ, h5, h6]
                    clear ha h5 h6
                    go_wp2
                    refine bodyPost_ret (results_ctt rfl _ _ (w.heap.size + 2) 0 [.int .i64 (most : Int), .slice AJ nJ cJ, .bool true] _ rfl H9.out.2 Try.underlying58 rfl size_rj) rfl ?_
                    rw [HE.out]
                    exact ⟨AJ, nJ, cJ, rfl, HJ2.out.1, HJ2.out.2.2.2.symm, H9.out.1.bs.more (Nat.le_of_eq H9.out.1.size.symm), fun a ha => by
                      have h1 := H9.out.1.ge a ha
                      omega, H9.out.1.bel⟩
            | false =>
              rw [if_neg (by rintro (h | ⟨h, _⟩); exact k0 h; cases h)] at hEd
              by_cases hmk : most < q + k
              · have k2 : (most : Int) < (q : Int) + (k : Int) := by omega
                skip
                have hEE : E = 2 := by rw [hEd, if_pos hmk]
                have HE := Lib.hid (hR.trans (by rw [hEE, if_neg (by decide)]))
                clear hEE hR hEd
                go_upto_region 12 with fail
                go_wp2_with (first
                  | (refine wpList_load_mid rfl 58 (.tmp 9) rfl (w.heap.size + 3) 0 rfl [.int .i64 (most : Int), .slice none 0 0, .bool false] _ rf Try.underlying58 rfl size_rj ?_)
                  | (refine wpList_store_mid rfl 58 (.tmp 6) (.tmp 66) rfl (w.heap.size + 2) 0 (List.toArray [.int .i64 (most : Int), .slice none 0 0, .bool false]) rfl rfl R0.out.there size_rj (all_oneCell_toArray (one3j _ _ _ _ _)) ?_))
                have hd0 := R0.out.done [.int .i64 (most : Int), .slice none 0 0, .bool false] rfl
                refine bodyPost_ret (results_ctt rfl _ _ (w.heap.size + 2) 0 [.int .i64 (most : Int), .slice none 0 0, .bool false] _ rfl hd0.1 Try.underlying58 rfl size_rj) rfl ?_
                exact RPRet.err HE.out hd0.2
              · have k2 : ¬ (most : Int) < (q : Int) + (k : Int) := by omega
                skip
                have hEE : E = 0 := by rw [hEd, if_neg (by omega)]
                have HE := Lib.hid (hR.trans (by rw [hEE, if_pos rfl]) : R = ((l ++ d, false), !false, 0))
                clear hEE hR hEd
                go_wp2_with fail
                refine calls_at_world (F := fun W => Below W0.heap.size W0 W ∧ Ps W W.heap.size (some ⟨W0.heap.size, 0, none⟩) 2 [l, d]) ⟨alloc_below W0 _, ps_two (heap_alloc_new W0 _) (by rw [alloc_size]; omega) ((HB.out.1.below' (R0.out.bel.trans ((alloc_below W0 _).mono R0.out.bel.size)) hB0).more (by rw [alloc_size]; have := R0.out.bel.size; omega)) ((HB.out.2.1.below' (R0.out.bel.trans ((alloc_below W0 _).mono R0.out.bel.size)) hB0).more (by rw [alloc_size]; have := R0.out.bel.size; omega))⟩ fun W1 ⟨p1, p2⟩ => ?_
                have hjn := join_any (some ⟨W0.heap.size, 0, none⟩) 2 2 [l, d] W1 W1.heap.size p2 (Nat.le_refl _) (by omega) (by have := HB.out.2.2; simp only [List.flatten_cons, List.flatten_nil, List.append_nil, List.length_append]; exact this)
                have R1 := Lib.hid (And.intro (R0.out.below p1) p1.size)
                clear p1 p2
                refine hjn.mono ?_
                rintro e w2 ⟨vJ, rfl, hoJ, bJ⟩
                rw [show [l, d].flatten = l ++ d by simp] at hoJ
                obtain ⟨nJ, hnJ⟩ : ∃ nJ, (l ++ d).length = nJ := ⟨_, rfl⟩
                rw [hnJ] at hoJ
                have hgeJ := own_ge hoJ
                obtain ⟨AJ, cJ, rfl, hcJ, hbJ⟩ := Bs.of_own hoJ
                have h2 := R1.out.1.below bJ
                have R2 := Lib.hid h2
                obtain ⟨y0, y1, y2⟩ := (⟨range_blk3 h2.j rfl 0 _ rfl, range_blk3 h2.j rfl 1 _ rfl, range_blk3 h2.j rfl 2 _ rfl⟩ : w2.cell? ⟨w.heap.size, 0 + 0, none⟩ = some (.int .i64 (most : Int)) ∧ w2.cell? ⟨w.heap.size, 0 + 1, none⟩ = some (.slice A q c) ∧ w2.cell? ⟨w.heap.size, 0 + 2, none⟩ = some (.bool true))
                rw [Nat.zero_add] at y0 y1 y2
                have z1 : w2.cell? ⟨w.heap.size + 1, 1, none⟩ = some (.bool false) := range_blk3 h2.b rfl 1 _ rfl
                have fz1 : w2.frozen? ⟨w.heap.size, 1, none⟩ = false := by simp [World.frozen?, h2.j]
                have fz2 : w2.frozen? ⟨w.heap.size, 2, none⟩ = false := by simp [World.frozen?, h2.j]
                have HJ2 := Lib.hid (And.intro hcJ (And.intro hbJ (And.intro hgeJ hnJ)))
                clear hjn hoJ bJ hcJ hbJ hgeJ hnJ h2 j0 j1 j2 b0 b1 b2 rf
                try dsimp only
                go_wp2_with fail
                refine wp_at_world (F := fun W => R4 w W most (.slice AJ nJ cJ) false (N0 : Int) (Z : Int) false ∧ Bs W W.heap.size AJ nJ (l ++ d)) ⟨(R2.out.setJ _).setO false, ?_⟩ fun W4 ⟨p1, p2⟩ => ?_
                · have hk := ((Kp.refl w.heap.size none w2).setCell 1 (.slice AJ nJ cJ)).setCell 2 (.bool false)
                  have := HJ2.out.2.1.kp hk (fun hp a ha => ⟨by
                    have h1 := HJ2.out.2.2.1 a.block (by rw [ha]; rfl)
                    have h3 := R1.out.2
                    have h4 := R0.out.size
                    omega, by simp⟩) (Nat.le_refl _)
                  exact this.more hk.size
                have R4' := Lib.hid p1
                have B4 := Lib.hid p2
                obtain ⟨x0, x1, x2⟩ := (⟨range_blk3 p1.j rfl 0 _ rfl, range_blk3 p1.j rfl 1 _ rfl, range_blk3 p1.j rfl 2 _ rfl⟩ : W4.cell? ⟨w.heap.size, 0 + 0, none⟩ = some (.int .i64 (most : Int)) ∧ W4.cell? ⟨w.heap.size, 0 + 1, none⟩ = some (.slice AJ nJ cJ) ∧ W4.cell? ⟨w.heap.size, 0 + 2, none⟩ = some (.bool false))
                rw [Nat.zero_add] at x0 x1 x2
                have x3 : W4.cell? ⟨w.heap.size + 1, 1, none⟩ = some (.bool false) := range_blk3 p1.b rfl 1 _ rfl
                clear p1 p2 y0 y1 y2 z1 fz1 fz2
                go_wp2_with fail
                refine wp_region_rel2 (S15 w W4.heap.size most AJ nJ cJ (l ++ d) false (N0 : Int) (Z : Int)) (fun W W' => W.rangeAt (w.heap.size + 2) 0 [.int .i64 (most : Int), .slice AJ nJ cJ, .bool false] → W'.rangeAt (w.heap.size + 2) 0 [.int .i64 (most : Int), .slice AJ nJ cJ, .bool false]) (BpR w.heap.size [.int .i64 (most : Int), .slice AJ nJ cJ, .bool false] false true) [(3, .pointer (some ⟨w.heap.size, 0, none⟩)), (4, .pointer (some ⟨w.heap.size + 1, 0, none⟩)), (6, .pointer (some ⟨w.heap.size + 2, 0, none⟩))] (by kernel_rfl) (by kernel_rfl) (by kernel_rfl) ?base ?first (fun i W W' v hT h => BpR.grow i W W' v hT h) ?steps ?fin
                case base =>
                  intro x hx
                  simp only [List.mem_cons, List.not_mem_nil, or_false] at hx
                  rcases hx with rfl | rfl | rfl <;> exact ⟨rfl, rfl⟩
                case first =>
                  have hh := R4'.out
                  exact ⟨hh.bel.trans (Below.drew (Below.refl _ _)), rfl, hh.j, hh.b, hh.there, B4.out.below (Below.drew (Below.refl _ _)), fun a ha => by
                    have h1 := HJ2.out.2.2.1 a.block (by rw [ha]; rfl)
                    have h3 := R1.out.2
                    have h4 := R0.out.size
                    omega⟩
                case steps =>
                  clear x0 x1 x2 x3
                  refine steps_cons ?_ (steps_cons ?_ (steps_cons ?_ (steps_cons ?_ (steps_cons ?_ (steps_cons ?_ (steps_cons ?_ steps_nil))))))
                  · intro a wx K hS hB hR hK
                    rw [if_pos (wanted_none rfl)]
                    have h3 := tmp_is (hB.1)
                    obtain ⟨d0, d1, d2⟩ := three (range_blk3 hS.j rfl)
                    go_simp
                    exact hK (.agg #[.int .i64 (most : Int), .slice AJ nJ cJ, .bool false]) wx hS (fun h => h) rfl
                  · intro a wx K hS hB hR hK
                    rw [if_pos (wanted_none rfl)]
                    have h4 := tmp_is (hB.2.1)
                    go_simp
                    exact hK (.pointer (some ⟨w.heap.size + 1, 1, none⟩)) wx hS (fun h => h) rfl
                  · intro a wx K hS hB hR hK
                    rw [if_pos (wanted_none rfl)]
                    have h77 := tmp_is (hR.1)
                    obtain ⟨d0, d1, d2⟩ := three (range_blk3 hS.b rfl)
                    go_simp
                    exact hK (.bool false) wx hS (fun h => h) rfl
                  · intro a wx K hS hB hR hK
                    rw [if_pos (wanted_none rfl)]
                    have h78 := tmp_is (hR.1)
                    go_simp
                    exact hK (.bool true) wx hS (fun h => h) rfl
                  · intro a wx K hS hB hR hK
                    rw [if_pos (wanted_none rfl)]
                    have hst := hS.stored [.int .i64 (most : Int), .slice AJ nJ cJ, .bool false] rfl
                    refine wp_store_mid 58 (.tmp 6) (.tmp 76) (by rfl) (w.heap.size + 2) 0 #[.int .i64 (most : Int), .slice AJ nJ cJ, .bool false] (hB.2.2.1) (hR.1) hS.there size_rj (all_oneCell_toArray (one3j _ _ _ _ _)) ?_
                    exact hK undef _ hst.1 (fun _ => hst.2) hst.2
                  · intro a wx K hS hB hR hK
                    rw [if_pos (wanted_none rfl)]
                    have h79 := tmp_is (hR.1)
                    go_simp
                    exact hK (.bool true) wx hS (fun h => h) rfl
                  · intro a wx K hS hB hR hK
                    rw [if_pos (wanted_none rfl)]
                    go_simp
                    exact hK (.int .i64 0) wx hS (fun h => h) rfl
                case fin =>
                  intro a w9 hS9 ha hR
                  have h4 : w9.rangeAt (w.heap.size + 2) 0 [.int .i64 (most : Int), .slice AJ nJ cJ, .bool false] := deps_mem _ hR 4 (by decide)
                  have h5 : a.eval (.tmp 7) = .bool true := deps_mem _ hR 5 (by decide)
                  have h6 : a.eval (.tmp 8) = .int .i64 0 := deps_mem _ hR 6 (by decide)
                  have H9 := Lib.hid (And.intro hS9 h4)
                  clear hR hS9 h4
                  simp only [pin] at ha
                  rw [ha]
                  simp only [List.setIfInBounds_toArray, List.set_cons_zero, List.set_cons_succ, h5, h6]
                  clear ha h5 h6
                  go_wp2
                  refine bodyPost_ret (results_ctt rfl _ _ (w.heap.size + 2) 0 [.int .i64 (most : Int), .slice AJ nJ cJ, .bool false] _ rfl H9.out.2 Try.underlying58 rfl size_rj) rfl ?_
                  rw [HE.out]
                  exact ⟨AJ, nJ, cJ, rfl, HJ2.out.1, HJ2.out.2.2.2.symm, H9.out.1.bs.more (Nat.le_of_eq H9.out.1.size.symm), fun a ha => by
                    have h1 := H9.out.1.ge a ha
                    omega, H9.out.1.bel⟩
        · have t0 : ((T : Int) != (q : Int)) = true := bne_iff_ne.2 (by omega)
          rw [if_pos (.inr (by omega))] at hEd
          have hEE : E = 4 := hEd
          have HE := Lib.hid (hR.trans (by rw [hEE, if_neg (by decide)]))
          clear hEE hR hEd
          go_upto_region 8 with fail
          go_wp2_with (first
            | (refine wpList_load_mid rfl 58 (.tmp 9) rfl (w.heap.size + 3) 0 rfl [.int .i64 (most : Int), .slice none 0 0, .bool false] _ rf Try.underlying58 rfl size_rj ?_)
            | (refine wpList_store_mid rfl 58 (.tmp 6) (.tmp 39) rfl (w.heap.size + 2) 0 (List.toArray [.int .i64 (most : Int), .slice none 0 0, .bool false]) rfl rfl R0.out.there size_rj (all_oneCell_toArray (one3j _ _ _ _ _)) ?_))
          have hd0 := R0.out.done [.int .i64 (most : Int), .slice none 0 0, .bool false] rfl
          refine bodyPost_ret (results_ctt rfl _ _ (w.heap.size + 2) 0 [.int .i64 (most : Int), .slice none 0 0, .bool false] _ rfl hd0.1 Try.underlying58 rfl size_rj) rfl ?_
          exact RPRet.err HE.out hd0.2
end Go.Proofs.Ytdgihhepmmkkpaa
