/-
  BlockPlays: of each row of blocks every answer is as the document says.
-/
import Derived.Test.YtdgihhepmmkkpaaBlkPRel
import Derived.Test.YtdgihhepmmkkpaaBlkPieces
import Derived.Test.YtdgihhepmmkkpaaRelGhost2
namespace Go.Proofs.Ytdgihhepmmkkpaa
open Go.RowKit
set_option maxRecDepth 100000
set_option linter.unusedVariables false
theorem one4 (a b : Int) (m : Bool) (A : Option Addr) (n c : Nat) : ∀ v ∈ ([.int .i64 a, .bool m, .int .i64 b, .slice A n c] : List Value), v.oneCell' = true := by
  intro v hv
  simp only [List.mem_cons, List.not_mem_nil, or_false] at hv
  rcases hv with rfl | rfl | rfl | rfl <;> rfl
theorem size_pc : (Try.prog.info? 54).map (·.size) = some 4 := by kernel_rfl
theorem four_ {W : World} {b : Nat} {v0 v1 v2 v3 : Value} (h : W.rangeAt b 0 [v0, v1, v2, v3]) : W.cell? ⟨b, 0, none⟩ = some v0 ∧ W.cell? ⟨b, 1, none⟩ = some v1 ∧ W.cell? ⟨b, 2, none⟩ = some v2 ∧ W.cell? ⟨b, 3, none⟩ = some v3 := ⟨h 0 _ rfl, h 1 _ rfl, h 2 _ rfl, h 3 _ rfl⟩
theorem pc_get {os : List Pc4} {k : Nat} (h : k < os.length) : ∃ s, os[k]? = some s := ⟨_, List.getElem?_eq_getElem h⟩
/-- How many bytes the first blocks have. -/
def sumN (os : List Pc4) (k : Nat) : Nat := ((os.take k).map (·.n)).sum
theorem sumN_next {os : List Pc4} {k : Nat} {s : Pc4} (h : os[k]? = some s) : sumN os (k + 1) = sumN os k + s.n := by
  unfold sumN
  rw [List.take_add_one, h]
  simp
theorem sumN_le {os : List Pc4} {k j : Nat} (h : k ≤ j) : sumN os k ≤ sumN os j := by
  induction j with
  | zero => rw [show k = 0 by omega]; exact Nat.le_refl _
  | succ j ih =>
    rcases Nat.lt_or_eq_of_le h with e | rfl
    · refine Nat.le_trans (ih (by omega)) ?_
      by_cases hj : j < os.length
      · obtain ⟨s, hs⟩ := pc_get hj
        rw [sumN_next hs]; omega
      · unfold sumN
        rw [List.take_of_length_le (show os.length ≤ j by omega), List.take_of_length_le (show os.length ≤ j + 1 by omega)]
        exact Nat.le_refl _
    · exact Nat.le_refl _
/-- Between two blocks: the program's body at jb, the document's at xb. -/
structure PS (w0 : World) (jb xb M : Nat) (v : Value) (l : List UInt8) (wh on : Bool) (A : Option Addr) (c : Nat) (w : World) : Prop where
  j : JnAt w jb M v l wh
  x : w.heap[xb]? = some (.cells #[.int .i64 (M : Int), .slice A l.length c, .bool on] 58)
  rel : PRel l wh on
  b : Bs w w.heap.size A l.length l
  cap : l.length ≤ c
  jx : jb < xb
  vx : ∀ g, v.ownBlock = some g → xb < g
  ax : ∀ a, A = some a → xb < a.block ∧ v.ownBlock ≠ some a.block
  bel : Below w0.heap.size w0 w
  w0j : w0.heap.size ≤ jb
theorem PS.below {w0 w w' : World} {jb xb M : Nat} {v : Value} {l : List UInt8} {wh on : Bool} {A : Option Addr} {c : Nat} (h : PS w0 jb xb M v l wh on A c w) (hb : Below w.heap.size w w') : PS w0 jb xb M v l wh on A c w' :=
  ⟨h.j.below hb, (hb.block xb (Array.getElem?_eq_some_iff.1 h.x).1).trans h.x, h.rel, (h.b.below hb).more hb.size, h.cap, h.jx, h.vx, h.ax, h.bel.trans (hb.mono h.bel.size), h.w0j⟩
/-- Behind the program's Put: the document's body is as it was. -/
structure MS (w0 : World) (jb xb P M : Nat) (v : Value) (l' : List UInt8) (wh' : Bool) (l : List UInt8) (on : Bool) (A : Option Addr) (c : Nat) (num size : Int) (more : Bool) (dA : Option Addr) (dn dc : Nat) (dl : List UInt8) (w : World) : Prop where
  j : JnAt w jb M v l' wh'
  x : w.heap[xb]? = some (.cells #[.int .i64 (M : Int), .slice A l.length c, .bool on] 58)
  p : w.heap[P]? = some (.cells #[.int .i64 num, .bool more, .int .i64 size, .slice dA dn dc] 54)
  b : Bs w w.heap.size A l.length l
  d : Bs w w.heap.size dA dn dl
  bel : Below w0.heap.size w0 w
theorem MS.below {w0 w w' : World} {jb xb P M : Nat} {v : Value} {l' : List UInt8} {wh' : Bool} {l : List UInt8} {on : Bool} {A : Option Addr} {c : Nat} {num size : Int} {more : Bool} {dA : Option Addr} {dn dc : Nat} {dl : List UInt8}
    (h : MS w0 jb xb P M v l' wh' l on A c num size more dA dn dc dl w) (hb : Below w.heap.size w w') : MS w0 jb xb P M v l' wh' l on A c num size more dA dn dc dl w' :=
  ⟨h.j.below hb, (hb.block xb (Array.getElem?_eq_some_iff.1 h.x).1).trans h.x, (hb.block P (Array.getElem?_eq_some_iff.1 h.p).1).trans h.p, (h.b.below hb).more hb.size, (h.d.below hb).more hb.size, h.bel.trans (hb.mono h.bel.size)⟩
def CR (last : Bool) (er : Int) (jb xb q' : Nat) (l' : List UInt8) (xs : Value) (i : Nat) (w : World) (v : Value) : Prop :=
  match i with
  | 0 | 1 => v = .bool last
  | 4 | 5 => v = .int .i64 er
  | 9 | 17 => v = .pointer (some ⟨jb, 0, none⟩)
  | 10 | 13 => v = .int .i64 (q' : Int)
  | 11 | 19 => v = .pointer (some ⟨xb, 1, none⟩)
  | 12 | 20 => v = xs
  | 18 => ∃ A8 c8, v = .slice A8 q' c8 ∧ Bs w w.heap.size A8 q' l'
  | 21 => v = .bool true
  | _ => v = .bool false
theorem CR.grow {last : Bool} {er : Int} {jb xb q' : Nat} {l' : List UInt8} {xs : Value} (i : Nat) (w w' : World) (v : Value) (hT : Below w.heap.size w w') (h : CR last er jb xb q' l' xs i w v) : CR last er jb xb q' l' xs i w' v := by
  unfold CR at h ⊢
  split at h
  all_goals first
    | exact h
    | (obtain ⟨A8, c8, h1, h2⟩ := h; exact ⟨A8, c8, h1, (h2.below hT).more hT.size⟩)
theorem heap_setCells_ne (b k : Nat) (hk : k ≠ b) : ∀ (us : List Value) (o : Nat) (X : World), (X.setCells b o us).heap[k]? = X.heap[k]?
  | [], o, X => rfl
  | u :: us, o, X => by rw [World.setCells, heap_setCells_ne b k hk us, Below.heap_setCell _ _ _ _ hk]
theorem JnAt.setX {w : World} {jb most xb : Nat} {v : Value} {l : List UInt8} {wh : Bool} (h : JnAt w jb most v l wh) (hx : jb ≠ xb) (hv : ∀ g, v.ownBlock = some g → g ≠ xb) (vs : List Value) : JnAt (w.setCells xb 0 vs) jb most v l wh :=
  ⟨(heap_setCells_ne xb jb hx vs 0 w).trans h.blk, row_kept h.row (fun g cs hg _ => heap_setCells_ne xb g (hv g hg) vs 0 w), h.len, h.max⟩
theorem MS.thx {w0 w : World} {jb xb P M : Nat} {v : Value} {l' : List UInt8} {wh' : Bool} {l : List UInt8} {on : Bool} {A : Option Addr} {c : Nat} {num size : Int} {more : Bool} {dA : Option Addr} {dn dc : Nat} {dl : List UInt8}
    (h : MS w0 jb xb P M v l' wh' l on A c num size more dA dn dc dl w) : w.there xb 0 3 := by
  intro j hj
  rw [Nat.zero_add]
  refine ⟨?_, by simp [World.frozen?, h.x]⟩
  rw [cell_of_row _ _ _ _ _ _ h.x]
  match j, hj with
  | 0, _ | 1, _ | 2, _ => rfl
structure QS (w5 : World) (M q' : Nat) (l' : List UInt8) (on' : Bool) (L : Nat → Bool) (g : Option Nat) (w : World) : Prop where
  bel : Below w5.heap.size w5 w
  n : L 11 = false → g = none
  l : L 12 = true → L 11 = true
  y : L 11 = true → ∃ I, g = some I ∧ w5.heap.size ≤ I ∧ (L 12 = false → w.heap[I]? = some (.cells #[.int .i64 0, .slice none 0 0, .bool false] 58))
    ∧ (L 12 = true → ∃ A' c', w.heap[I]? = some (.cells #[.int .i64 (M : Int), .slice A' q' c', .bool on'] 58) ∧ q' ≤ c' ∧ Bs w w.heap.size A' q' l' ∧ ∀ a, A' = some a → w5.heap.size ≤ a.block)
def QT (g : Option Nat) (w : World) (g' : Option Nat) (w' : World) : Prop := (∀ I, g = some I → g' = some I) ∧ ∀ (A : Option Addr) (n : Nat) (l : List UInt8), Bs w w.heap.size A n l → Bs w' w'.heap.size A n l
theorem QT.refl (g : Option Nat) (w : World) : QT g w g w := ⟨fun _ h => h, fun _ _ _ h => h⟩
theorem QT.below {g : Option Nat} {w w' : World} (hb : Below w.heap.size w w') : QT g w g w' := ⟨fun _ h => h, fun _ _ _ h => (h.below hb).more hb.size⟩
def QR (M : Nat) (num size : Int) (more : Bool) (xA : Option Addr) (q xc : Nat) (on : Bool) (P : Nat) (dA : Option Addr) (dn dc : Nat) (w5 : World) (q' : Nat) (l' : List UInt8) (on' last : Bool) (er : Int) (g : Option Nat) (i : Nat) (w : World) (v : Value) : Prop :=
  match i with
  | 0 => v = .agg #[.int .i64 (M : Int), .slice xA q xc, .bool on]
  | 1 => v = .pointer (some ⟨P, 0, none⟩)
  | 2 | 3 => v = .agg #[.int .i64 num, .bool more, .int .i64 size]
  | 4 => v = .pointer (some ⟨P, 3, none⟩)
  | 5 => v = .slice dA dn dc
  | 6 | 7 => ∃ A' c', v = .tuple #[.agg #[.int .i64 (M : Int), .slice A' q' c', .bool on'], .bool last, .int .i64 er] ∧ q' ≤ c' ∧ Bs w w.heap.size A' q' l' ∧ ∀ a, A' = some a → w5.heap.size ≤ a.block
  | 8 => ∃ A' c', v = .agg #[.int .i64 (M : Int), .slice A' q' c', .bool on'] ∧ q' ≤ c' ∧ Bs w w.heap.size A' q' l' ∧ ∀ a, A' = some a → w5.heap.size ≤ a.block
  | 9 | 13 => v = .bool last
  | 10 | 14 => v = .int .i64 er
  | 11 => ∃ I, g = some I ∧ v = .pointer (some ⟨I, 0, none⟩)
  | _ => True
theorem QR.grow {M : Nat} {num size : Int} {more : Bool} {xA : Option Addr} {q xc : Nat} {on : Bool} {P : Nat} {dA : Option Addr} {dn dc : Nat} {w5 : World} {q' : Nat} {l' : List UInt8} {on' last : Bool} {er : Int} (i : Nat) (g : Option Nat) (w : World) (g' : Option Nat) (w' : World) (v : Value) (ht : QT g w g' w')
    (h : QR M num size more xA q xc on P dA dn dc w5 q' l' on' last er g i w v) : QR M num size more xA q xc on P dA dn dc w5 q' l' on' last er g' i w' v := by
  unfold QR at h ⊢
  split at h
  all_goals first
    | exact h
    | (obtain ⟨tA, tc, h1, h2, h3, h4⟩ := h; exact ⟨tA, tc, h1, h2, ht.2 _ _ _ h3, h4⟩)
    | (obtain ⟨I, h1, h2⟩ := h; exact ⟨I, ht.1 I h1, h2⟩)
section
variable {w5 : World} {M q' : Nat} {l' : List UInt8} {on' : Bool} {L : Nat → Bool} {g : Option Nat} {w w' : World}
theorem QS.call (h : QS w5 M q' l' on' L g w) (i : Nat) (e11 : updG L i 11 = L 11) (e12 : updG L i 12 = L 12) (hb : Below w.heap.size w w') : QS w5 M q' l' on' (updG L i) g w' := by
  refine ⟨h.bel.trans (hb.mono h.bel.size), ?_, ?_, ?_⟩
  · rw [e11]; exact h.n
  · rw [e11, e12]; exact h.l
  · rw [e11, e12]
    intro e
    obtain ⟨I, h1, h2, h3, h4⟩ := h.y e
    refine ⟨I, h1, h2, fun x => ?_, fun x => ?_⟩
    · have hz := h3 x
      exact (hb.block I (Array.getElem?_eq_some_iff.1 hz).1).trans hz
    · obtain ⟨A', c', hz, k1, k2, k3⟩ := h4 x
      exact ⟨A', c', (hb.block I (Array.getElem?_eq_some_iff.1 hz).1).trans hz, k1, (k2.below hb).more hb.size, k3⟩
theorem QS.quiet (h : QS w5 M q' l' on' L g w) (i : Nat) (e11 : updG L i 11 = L 11) (e12 : updG L i 12 = L 12) : QS w5 M q' l' on' (updG L i) g w := h.call i e11 e12 (Below.refl _ _)
theorem QS.made (h : QS w5 M q' l' on' L g w) (hL : L 11 = false) : QS w5 M q' l' on' (updG L 11) (some w.heap.size) (w.alloc (.cells #[.int .i64 0, .slice none 0 0, .bool false] 58)) := by
  refine ⟨h.bel.trans ((alloc_below w _).mono h.bel.size), fun e => (by cases e), fun e => rfl, fun _ => ⟨_, rfl, h.bel.size, fun _ => heap_alloc_new w _, fun e => ?_⟩⟩
  have e' : L 12 = true := e
  have := h.l e'
  rw [hL] at this; cases this
theorem QS.stored (h : QS w5 M q' l' on' L g w) (hL : L 12 = false) (h11 : L 11 = true) (h8 : L 8 = true) {I : Nat} (hg : g = some I) {A' : Option Addr} {c' : Nat} (hle : q' ≤ c') (hb : Bs w w.heap.size A' q' l') (hf : ∀ a, A' = some a → w5.heap.size ≤ a.block) :
    w.there I 0 3 ∧ QS w5 M q' l' on' (updG L 12) g (w.setCells I 0 [.int .i64 (M : Int), .slice A' q' c', .bool on']) ∧ QT g w g (w.setCells I 0 [.int .i64 (M : Int), .slice A' q' c', .bool on']) := by
  obtain ⟨I', h1, h2, h3, _⟩ := h.y h11
  rw [hg] at h1
  obtain rfl := Option.some.inj h1
  have hz := h3 hL
  have hth : w.there I 0 3 := fun j hj => by
    rw [Nat.zero_add]
    refine ⟨?_, by simp [World.frozen?, hz]⟩
    rw [cell_of_row _ _ _ _ _ _ hz]
    match j, hj with
    | 0, _ | 1, _ | 2, _ => rfl
  have hdt : QT g w g (w.setCells I 0 [.int .i64 (M : Int), .slice A' q' c', .bool on']) := ⟨fun _ h => h, fun A n l hB => by rw [size_setCells_]; exact hB.setR3 hz _⟩
  have hblk : (w.setCells I 0 [.int .i64 (M : Int), .slice A' q' c', .bool on']).heap[I]? = some (.cells #[.int .i64 (M : Int), .slice A' q' c', .bool on'] 58) := by
    simp only [World.setCells]
    rw [heap_setCell_same _ I 2 _ 58 _ (heap_setCell_same _ I 1 _ 58 _ (heap_setCell_same w I 0 _ 58 _ hz))]
    rfl
  exact ⟨hth, ⟨below_setCells h.bel h2 _ _, h.n, fun _ => h11, fun _ => ⟨I, hg, h2, fun e => (by cases e), fun _ => ⟨A', c', hblk, hle, (by rw [size_setCells_]; exact hb.setR3 hz _), hf⟩⟩⟩, hdt⟩
theorem QS.first (w5 : World) : QS w5 M q' l' on' (fun _ => false) none w5.drew := ⟨Below.drew (Below.refl _ _), fun _ => rfl, fun e => (by cases e), fun e => (by cases e)⟩
end
set_option maxHeartbeats 16000000 in
theorem bplays_law (most : Int) (A : Option Addr) (n c : Nat) (os : List Pc4) (w : World) (hO : Pc4s w w.heap.size A n os) (hc : n ≤ c) (hm : c ≤ maxLen) :
    Calls Try.prog 5 #[.int .i64 most, .slice A n c] w fun e w' => e = .returned (.bool true) ∧ Below w.heap.size w w' := by
  have hcI : (c : Int) ≤ 9223372036854775807 := by simp only [maxLen] at hm; omega
  have hnI : (n : Int) ≤ 9223372036854775807 := by omega
  have hol := hO.len
  have HA := Lib.hid (And.intro hO hol)
  clear hm hO hol
  go_enter Try.func5, Try.ntmps5
  go_wp2_with fail
  refine (balive_any _).mono ?_
  rintro e w1 ⟨rfl, b1⟩
  have H1 := Lib.hid b1
  clear b1
  go_wp2_with fail
  go_loopw [5, 21] (fun sx i wr => ∃ k : Nat, k ≤ n ∧ i = .int .i64 (k : Int) ∧ sx = .int .i64 (sumN os k : Int) ∧ sumN os k ≤ 6000 ∧ Aside (Below w.heap.size w wr)) (fun _ i _ => n - (intOf i).toNat)
  case atStart => exact ⟨0, Nat.zero_le _, rfl, rfl, Nat.zero_le _, H1.out⟩
  case round =>
    obtain ⟨k, hk, rfl, rfl, hsum, hbel⟩ := hrel
    obtain ⟨T, hT⟩ : ∃ T, sumN os k = T := ⟨_, rfl⟩
    rw [hT] at hsum
    rw [hT]
    have HT := Lib.hid hT
    clear hT
    by_cases hlt : k < n
    · obtain ⟨s, hs⟩ := pc_get (os := os) (k := k) (by rw [HA.out.2]; exact hlt)
      obtain ⟨pb, off, rfl, hpb, hat⟩ := HA.out.1.place (by omega)
      have hpc := (hat k s hs).keep hpb (fun p hp => hbel.out.cell hp)
      have hpn := sumN_next hs
      obtain ⟨num, more, size, dA, dn, dc, dl⟩ := s
      have hrg := hpc.range
      simp only [Pc4.vals] at hrg
      have hr1 := range_box wr #[.int .i64 num, .bool more, .int .i64 size, .slice dA dn dc] 54 rfl
      have hcap := hpc.cap
      have hmax := hpc.max
      simp only [maxLen] at hcap hmax
      have hT6 : (T : Int) ≤ 6000 := by omega
      have hkI : (k : Int) < n := by omega
      have hdI : (dn : Int) ≤ 9223372036854775807 := by omega
      have HB := Lib.hid (And.intro hbel.out hpn)
      clear hat hpc hpn hbel hcap hmax hs
      by_cases hbig : (6000 : Int) - T < dn
      · clear hr1
        go_wp2_with (refine wpList_load_mid rfl 54 (.tmp 23) rfl pb (off + k * 4) rfl [.int .i64 num, .bool more, .int .i64 size, .slice dA dn dc] _ hrg Try.underlying54 rfl size_pc ?_)
        go_ret
        exact ⟨rfl, HB.out.1.trans ((alloc_below wr _).mono HB.out.1.size)⟩
      · have hsm : (T : Int) + (dn : Int) ≤ 6000 := by omega
        clear hr1
        go_wp2_with (refine wpList_load_mid rfl 54 (.tmp 23) rfl pb (off + k * 4) rfl [.int .i64 num, .bool more, .int .i64 size, .slice dA dn dc] _ hrg Try.underlying54 rfl size_pc ?_)
        go_roundw
        case rel =>
          refine ⟨k + 1, by omega, by first | rfl | go_num, ?_, ?_, HB.out.1.trans ((alloc_below wr _).mono HB.out.1.size)⟩
          · have := HB.out.2
            have h2 := HT.out
            dsimp only at this
            exact congrArg _ (by omega)
          · have := HB.out.2
            have h2 := HT.out
            dsimp only at this
            omega
        case measure => simp [intOf]; omega
    · obtain rfl : k = n := by omega
      have hkI : ¬ (k : Int) < k := by omega
      by_cases h30 : (30 : Int) < k
      · go_wp2
        go_ret
        exact ⟨rfl, hbel.out⟩
      · go_wp2_with fail
        refine (newJoin_f most wr).mono ?_
        rintro e w2 ⟨rfl, j2, b2, s2⟩
        have H2 := Lib.hid (And.intro j2 (And.intro (hbel.out.trans (b2.mono hbel.out.size)) (And.intro hbel.out.size s2)))
        obtain ⟨jb, hjb⟩ : ∃ jb, wr.heap.size = jb := ⟨_, rfl⟩
        rw [hjb] at H2
        rw [hjb]
        clear j2 b2 s2 hjb hbel
        try dsimp only
        go_wp2_with fail
        refine (rnew_f most w2).mono ?_
        rintro e w3 ⟨rfl, b3⟩
        obtain ⟨M, hM⟩ : ∃ M, mostN most = M := ⟨_, rfl⟩
        rw [hM] at H2
        rw [hM]
        have H3 := Lib.hid (And.intro (H2.out.1.below b3) (And.intro (H2.out.2.1.trans (b3.mono H2.out.2.1.size)) (show jb < w3.heap.size by have := b3.size; have := H2.out.2.2.2; omega)))
        clear b3 hM
        try dsimp only
        go_wp2_with fail
        go_loopw [46] (fun i wx => ∃ (j : Nat) (v : Value) (l : List UInt8) (wh on : Bool) (xA : Option Addr) (xc : Nat), j ≤ k ∧ i = .int .i64 (j : Int) ∧ Aside (PS w jb w3.heap.size M v l wh on xA xc wx ∧ l.length ≤ sumN os j)) (fun i _ => k - (intOf i).toNat)
        case atStart =>
          refine ⟨0, .slice none 0 0, [], false, false, none, 0, Nat.zero_le _, rfl, ⟨H3.out.1.below (alloc_below _ _), heap_alloc_new w3 _, PRel.first, Bs.empty _ _ _, Nat.le_refl _, H3.out.2.2, (fun g e => by cases e), (fun a e => by cases e), H3.out.2.1.trans ((alloc_below w3 _).mono H3.out.2.1.size), H2.out.2.2.1⟩, Nat.zero_le _⟩
        case round =>
          obtain ⟨j, v, l, wh, on, xA, xc, hj, rfl, hrel⟩ := hrel
          by_cases hlt2 : j < k
          · obtain ⟨s, hs⟩ := pc_get (os := os) (k := j) (by rw [HA.out.2]; exact hlt2)
            obtain ⟨pb, off, rfl, hpb, hat⟩ := HA.out.1.place (by omega)
            have hpc := (hat j s hs).keep hpb (fun p hp => hrel.out.1.bel.cell hp)
            have hpn := sumN_next hs
            have hple := sumN_le (os := os) (show j + 1 ≤ k by omega)
            have hS6 := HT.out
            obtain ⟨num, more, size, dA, dn, dc, dl⟩ := s
            have hrg := hpc.range
            simp only [Pc4.vals] at hrg
            have hdl := hpc.bs.len
            dsimp only at hdl hpn
            have hr1 := range_box wr #[.int .i64 num, .bool more, .int .i64 size, .slice dA dn dc] 54 rfl
            have hll : l.length + dn ≤ 6000 := by have := hrel.out.2; omega
            have hcap := hpc.cap
            have hkI2 : (j : Int) < k := by omega
            have HP := Lib.hid (And.intro hpc.bs (And.intro hll (And.intro hpn (And.intro hdl (And.intro hcap hrel.out)))))
            have hdn : (dn : Int) ≤ 6000 := by omega
            clear hat hpc hpn hple hS6 hs hll hdl hcap hrel hr1
            go_wp2_with (refine wpList_load_mid rfl 54 (.tmp 48) rfl pb (off + j * 4) rfl [.int .i64 num, .bool more, .int .i64 size, .slice dA dn dc] _ hrg Try.underlying54 rfl size_pc ?_)
            refine calls_at_world (F := fun W => Below wr.heap.size wr W ∧ W.heap[wr.heap.size]? = some (.cells #[.int .i64 num, .bool more, .int .i64 size, .slice dA dn dc] 54)) ⟨alloc_below wr _, heap_alloc_new wr _⟩ fun W4 ⟨p1, p2⟩ => ?_
            have hps := HP.out.2.2.2.2.2.1.below p1
            have hdW := HP.out.1.below (p1.mono HP.out.2.2.2.2.2.1.bel.size)
            have hpt := jput_f jb M v l wh W4 hps.j num size more dA dn dc dl (hdW.more (HP.out.2.2.2.2.2.1.bel.trans (p1.mono HP.out.2.2.2.2.2.1.bel.size)).size) (by omega)
            obtain ⟨l', wh', on', last, er, hj1, hr1, hrel', hlen'⟩ := put_rel (most := M) (l := l) (d := dl) (wh := wh) (on := on) (n := num) (z := size) (m := more) hps.rel hps.j.len
            rw [hj1] at hpt
            refine hpt.mono ?_
            rintro e w5 ⟨v', rfl, j5, k5, o5⟩
            have hPl := (Array.getElem?_eq_some_iff.1 p2).1
            have hvP : ∀ g, v.ownBlock = some g → g < wr.heap.size := fun g e => (HP.out.2.2.2.2.2.1.j.row.lt g e).2
            have hms : MS w jb w3.heap.size wr.heap.size M v' l' wh' l on xA xc num size more dA dn dc dl w5 := ⟨j5, (k5.block _ (Array.getElem?_eq_some_iff.1 hps.x).1 (by have := hps.jx; omega) (fun e => by have := hps.vx _ e.symm; omega)).trans hps.x,
              (k5.block _ hPl (by have := HP.out.2.2.2.2.2.1.j.lt; omega) (fun e => by have := hvP _ e.symm; omega)).trans p2,
              (hps.b.kp k5 (fun _ a ha => ⟨by have := (hps.ax a ha).1; have := hps.jx; omega, fun e => (hps.ax a ha).2 e.symm⟩) (Nat.le_refl _)).more k5.size,
              (hdW.below (k5.toBelow hps.bel.size hps.w0j (fun g e => by have := hps.vx g e; have := hps.jx; have := hps.w0j; omega))).more (Nat.le_trans hps.bel.size k5.size),
              hps.bel.trans (k5.toBelow hps.bel.size hps.w0j (fun g e => by have := hps.vx g e; have := hps.jx; have := hps.w0j; omega))⟩
            have H5 := Lib.hid (And.intro hms (And.intro hr1 (And.intro hrel' (And.intro (show l'.length ≤ l.length + dn by rw [← HP.out.2.2.2.1]; exact hlen') (fun g (e : v'.ownBlock = some g) => (o5 g e).imp id (Nat.le_trans p1.size))))))
            have HX := Lib.hid (And.intro hps.jx (And.intro hps.vx (And.intro hps.w0j hps.cap)))
            clear p1 p2 hps hdW hpt hj1 hr1 hrel' hlen' j5 k5 o5 hms hPl hvP
            try dsimp only
            go_wp2_with fail
            obtain ⟨q, hq⟩ : ∃ q, l.length = q := ⟨_, rfl⟩
            obtain ⟨q', hq'⟩ : ∃ q', l'.length = q' := ⟨_, rfl⟩
            have HQ := Lib.hid hq
            have HQ2 := Lib.hid hq'
            clear hq hq'
            refine wp_region_relG2 (QS w5 M q' l' on') QT (QR M num size more xA q xc on wr.heap.size dA dn dc w5 q' l' on' last er) [(9, .pointer (some ⟨w3.heap.size, 0, none⟩)), (11, .pointer (some ⟨wr.heap.size, 0, none⟩))] (by kernel_rfl) (by kernel_rfl) (by kernel_rfl) ?base none (QS.first w5) (fun i g w g' w' v ht h => QR.grow i g w g' w' v ht h) ?steps ?fin
            case base =>
              intro x hx
              simp only [List.mem_cons, List.not_mem_nil, or_false] at hx
              rcases hx with rfl | rfl <;> exact ⟨rfl, rfl⟩
            case steps =>
              refine steps_cons ?_ (steps_cons ?_ (steps_cons ?_ (steps_cons ?_ (steps_cons ?_ (steps_cons ?_ (steps_cons ?_ (steps_cons ?_ (steps_cons ?_ (steps_cons ?_ (steps_cons ?_ (steps_cons ?_ (steps_cons ?_ (steps_cons ?_ (steps_cons ?_ steps_nil))))))))))))))
              · intro a wx L g K hLi hLd hS hB hR hK
                rw [if_pos (wanted_none rfl)]
                have h9 := tmp_is (hB.1)
                have hms := H5.out.1.below hS.bel
                have hx := hms.x
                rw [HQ.out] at hx
                obtain ⟨d0, d1, d2⟩ := three (range_blk3 hx rfl)
                go_simp
                exact hK (.agg #[.int .i64 (M : Int), .slice xA q xc, .bool on]) wx g (hS.quiet 0 rfl rfl) (QT.refl _ _) rfl
              · intro a wx L g K hLi hLd hS hB hR hK
                rw [if_pos (wanted_none rfl)]
                have h11 := tmp_is (hB.2.1)
                go_simp
                exact hK (.pointer (some ⟨wr.heap.size, 0, none⟩)) wx g (hS.quiet 1 rfl rfl) (QT.refl _ _) rfl
              · intro a wx L g K hLi hLd hS hB hR hK
                rw [if_pos (wanted_none rfl)]
                have h61 := tmp_is (hR.1)
                have hms := H5.out.1.below hS.bel
                obtain ⟨d0, d1, d2, d3⟩ := four_ (range_blk3 hms.p rfl)
                go_simp
                exact hK (.agg #[.int .i64 num, .bool more, .int .i64 size]) wx g (hS.quiet 2 rfl rfl) (QT.refl _ _) rfl
              · intro a wx L g K hLi hLd hS hB hR hK
                rw [if_pos (wanted_none rfl)]
                have h62 := tmp_is (hR.1)
                go_simp
                refine (as_f num size more wx).mono ?_
                rintro e w' ⟨rfl, hb⟩
                exact hK _ _ g (hS.call 3 rfl rfl hb) (QT.below hb) rfl
              · intro a wx L g K hLi hLd hS hB hR hK
                rw [if_pos (wanted_none rfl)]
                have h11 := tmp_is (hB.2.1)
                go_simp
                exact hK (.pointer (some ⟨wr.heap.size, 3, none⟩)) wx g (hS.quiet 4 rfl rfl) (QT.refl _ _) rfl
              · intro a wx L g K hLi hLd hS hB hR hK
                rw [if_pos (wanted_none rfl)]
                have h64 := tmp_is (hR.1)
                have hms := H5.out.1.below hS.bel
                obtain ⟨d0, d1, d2, d3⟩ := four_ (range_blk3 hms.p rfl)
                go_simp
                exact hK (.slice dA dn dc) wx g (hS.quiet 5 rfl rfl) (QT.refl _ _) rfl
              · intro a wx L g K hLi hLd hS hB hR hK
                rw [if_pos (wanted_none rfl)]
                have h60 := tmp_is (hR.1)
                have h63 := tmp_is (hR.2.1)
                have h65 := tmp_is (hR.2.2.1)
                go_simp
                have hms := H5.out.1.below hS.bel
                have hrp := rput_f M xA q xc l on wx wx.heap.size (HQ.out ▸ hms.b) (Nat.le_refl _) num size more dA dn dc dl hms.d (by have := HX.out.2.2.2; have := HQ.out; omega) (by have := HP.out.2.1; omega) (by have := hms.j.max; omega)
                rw [H5.out.2.1] at hrp
                refine hrp.mono ?_
                rintro e w' ⟨A', n', c', rfl, hle, hn', hb', hfr, hb⟩
                obtain rfl : n' = q' := hn'.out.trans HQ2.out
                exact hK _ _ g (hS.call 6 rfl rfl hb) (QT.below hb) ⟨A', c', rfl, hle, hb', fun a ha => Nat.le_trans hS.bel.size (hfr a ha)⟩
              · intro a wx L g K hLi hLd hS hB hR hK
                rw [if_pos (wanted_none rfl)]
                obtain ⟨A', c', hv, hrest⟩ := hR.1
                have h66 := tmp_is hv
                go_simp
                exact hK (.tuple #[.agg #[.int .i64 (M : Int), .slice A' q' c', .bool on'], .bool last, .int .i64 er]) wx g (hS.quiet 7 rfl rfl) (QT.refl _ _) ⟨A', c', rfl, hrest⟩
              · intro a wx L g K hLi hLd hS hB hR hK
                rw [if_pos (wanted_none rfl)]
                obtain ⟨A', c', hv, hrest⟩ := hR.1
                have h59 := tmp_is hv
                go_simp
                exact hK (.agg #[.int .i64 (M : Int), .slice A' q' c', .bool on']) wx g (hS.quiet 8 rfl rfl) (QT.refl _ _) ⟨A', c', rfl, hrest⟩
              · intro a wx L g K hLi hLd hS hB hR hK
                rw [if_pos (wanted_none rfl)]
                obtain ⟨A', c', hv, hrest⟩ := hR.1
                have h59 := tmp_is hv
                go_simp
                exact hK (.bool last) wx g (hS.quiet 9 rfl rfl) (QT.refl _ _) rfl
              · intro a wx L g K hLi hLd hS hB hR hK
                rw [if_pos (wanted_none rfl)]
                obtain ⟨A', c', hv, hrest⟩ := hR.1
                have h59 := tmp_is hv
                go_simp
                exact hK (.int .i64 er) wx g (hS.quiet 10 rfl rfl) (QT.refl _ _) rfl
              · intro a wx L g K hLi hLd hS hB hR hK
                rw [if_pos (wanted_none rfl)]
                go_simp
                exact hK (.pointer (some ⟨wx.heap.size, 0, none⟩)) _ (some wx.heap.size) (hS.made hLi) ⟨fun I h => (by rw [hS.n hLi] at h; cases h), (QT.below (g := g) (alloc_below wx _)).2⟩ ⟨_, rfl, rfl⟩
              · intro a wx L g K hLi hLd hS hB hR hK
                rw [if_pos (wanted_none rfl)]
                obtain ⟨I, hgI, hvI⟩ := hR.1
                obtain ⟨A', c', hv, hle, hB', hfr⟩ := hR.2.1
                obtain ⟨hth, hst, hdt⟩ := hS.stored hLi (hLd 11 (by decide)) (hLd 8 (by decide)) hgI hle hB' hfr
                refine wp_store_mid 58 (.tmp 14) (.tmp 67) (by rfl) I 0 #[.int .i64 (M : Int), .slice A' q' c', .bool on'] hvI hv hth size_rj (all_oneCell_toArray (one3j _ _ _ _ _)) ?_
                exact hK undef _ g hst hdt trivial
              · intro a wx L g K hLi hLd hS hB hR hK
                rw [if_pos (wanted_none rfl)]
                have h68 := tmp_is (hR.1)
                go_simp
                exact hK (.bool last) wx g (hS.quiet 13 rfl rfl) (QT.refl _ _) rfl
              · intro a wx L g K hLi hLd hS hB hR hK
                rw [if_pos (wanted_none rfl)]
                have h69 := tmp_is (hR.1)
                go_simp
                exact hK (.int .i64 er) wx g (hS.quiet 14 rfl rfl) (QT.refl _ _) rfl
            case fin =>
              intro a w6 L g hS hall ha hR
              obtain ⟨I, hgI, hI, _, hst⟩ := hS.y (hall 11 (by decide))
              obtain ⟨A', c', hrow, hle, hB', hfr⟩ := hst (hall 12 (by decide))
              have h14 : a.eval (.tmp 14) = .pointer (some ⟨I, 0, none⟩) := by
                obtain ⟨I', e1, e2⟩ := deps_mem _ hR 11 (by decide)
                rw [hgI] at e1
                obtain rfl := Option.some.inj e1
                exact e2
              have h15 : a.eval (.tmp 15) = .bool last := deps_mem _ hR 13 (by decide)
              have h16 : a.eval (.tmp 16) = .int .i64 er := deps_mem _ hR 14 (by decide)
              have H6 := Lib.hid (And.intro hS.bel (And.intro hI (And.intro hrow (And.intro hle (And.intro hB' hfr)))))
              clear hR hS hst hI hle hB' hfr
              simp only [pin] at ha
              rw [ha]
              simp only [List.setIfInBounds_toArray, List.set_cons_zero, List.set_cons_succ, h14, h15, h16]
              clear ha h14 h15 h16 hgI
              obtain ⟨d0, d1, d2⟩ := three (range_blk3 hrow rfl)
              have hthx : w6.there w3.heap.size 0 3 := MS.thx (H5.out.1.below H6.out.1)
              clear hrow
              go_wp2_with (refine wpList_store_mid rfl 58 (.tmp 9) (.tmp 70) rfl w3.heap.size 0 (List.toArray [.int .i64 (M : Int), .slice A' q' c', .bool on']) rfl rfl hthx size_rj (all_oneCell_toArray (one3j _ _ _ _ _)) ?_)
              refine wp_at_world (F := fun W => PS w jb w3.heap.size M v' l' wh' on' A' c' W) ?_ fun w7 hps7 => ?_
              · have hm6 := H5.out.1.below H6.out.1
                have hxl : w3.heap.size < w5.heap.size := (Array.getElem?_eq_some_iff.1 H5.out.1.x).1
                have hxr : w3.heap.size < wr.heap.size := (Array.getElem?_eq_some_iff.1 HP.out.2.2.2.2.2.1.x).1
                have hvx : ∀ g, v'.ownBlock = some g → w3.heap.size < g := fun g e => by
                  rcases H5.out.2.2.2.2 g e with h | h
                  · exact HX.out.2.1 g h
                  · omega
                have hblk : (w6.setCells w3.heap.size 0 [.int .i64 (M : Int), .slice A' q' c', .bool on']).heap[w3.heap.size]? = some (.cells #[.int .i64 (M : Int), .slice A' q' c', .bool on'] 58) := by
                  simp only [World.setCells]
                  rw [heap_setCell_same _ _ 2 _ 58 _ (heap_setCell_same _ _ 1 _ 58 _ (heap_setCell_same w6 _ 0 _ 58 _ hm6.x))]
                  rfl
                refine ⟨hm6.j.setX (by have := HX.out.1; omega) (fun g e => by have := hvx g e; omega) _, by rw [HQ2.out]; exact hblk, H5.out.2.2.1, ?_, by rw [HQ2.out]; exact H6.out.2.2.2.1, HX.out.1, hvx, fun a ha => ⟨by have := H6.out.2.2.2.2.2 a ha; omega, fun e => by
                  have h1 := (H5.out.1.j.row.lt _ e).2
                  have h2 := H6.out.2.2.2.2.2 a ha
                  omega⟩, below_setCells hm6.bel (by have := HX.out.1; have := HX.out.2.2.1; omega) _ _, HX.out.2.2.1⟩
                rw [HQ2.out, size_setCells_]
                exact H6.out.2.2.2.2.1.setR3 hm6.x _
              have H7 := Lib.hid hps7
              have HE := Lib.hid (And.intro H5.out.2.2.2.1 (And.intro HP.out.2.2.2.2.2.2 HP.out.2.2.1))
              clear hps7 hthx d0 d1 d2 H6 hrg
              clear H5 HX HP
              go_wp2_with fail
              refine wp_region_rel2 (fun w' => Below w7.heap.size w7 w') (fun w w' => Below w.heap.size w w') (CR last er jb w3.heap.size q' l' (.slice A' q' c')) [(12, .bool last), (15, .bool last), (13, .int .i64 er), (16, .int .i64 er), (8, .pointer (some ⟨jb, 0, none⟩)), (9, .pointer (some ⟨w3.heap.size, 0, none⟩))] (by kernel_rfl) (by kernel_rfl) (by kernel_rfl) ?base2 (Below.drew (Below.refl _ _)) (fun i w w' v hT h => CR.grow i w w' v hT h) ?steps2 ?fin2
              case base2 =>
                intro x hx
                simp only [List.mem_cons, List.not_mem_nil, or_false] at hx
                rcases hx with rfl | rfl | rfl | rfl | rfl | rfl <;> exact ⟨rfl, rfl⟩
              case steps2 =>
                refine steps_cons ?_ (steps_cons ?_ (steps_cons ?_ (steps_cons ?_ (steps_cons ?_ (steps_cons ?_ (steps_cons ?_ (steps_cons ?_ (steps_cons ?_ (steps_cons ?_ (steps_cons ?_ (steps_cons ?_ (steps_cons ?_ (steps_cons ?_ (steps_cons ?_ (steps_cons ?_ (steps_cons ?_ (steps_cons ?_ (steps_cons ?_ (steps_cons ?_ (steps_cons ?_ (steps_cons ?_ (steps_cons ?_ (steps_cons ?_ steps_nil)))))))))))))))))))))))
                · intro a wx K hS hB hR hK
                  rw [if_pos (wanted_none rfl)]
                  have h12 := tmp_is (hB.1)
                  go_simp
                  exact hK (.bool last) wx hS (Below.refl _ wx) rfl
                · intro a wx K hS hB hR hK
                  rw [if_pos (wanted_none rfl)]
                  have h15 := tmp_is (hB.2.1)
                  go_simp
                  exact hK (.bool last) wx hS (Below.refl _ wx) rfl
                · intro a wx K hS hB hR hK
                  rw [if_pos (wanted_none rfl)]
                  have h71 := tmp_is (hR.1)
                  have h72 := tmp_is (hR.2.1)
                  have hq : (last != last) = false := by simp
                  go_simp
                  exact hK (.bool false) wx hS (Below.refl _ wx) rfl
                · intro a wx K hS hB hR hK
                  rw [if_pos (wanted_none rfl)]
                  have h73 := tmp_is (hR.1)
                  go_simp
                  exact hK (.bool false) wx hS (Below.refl _ wx) rfl
                · intro a wx K hS hB hR hK
                  rw [if_pos (wanted_some rfl (hR.1))]
                  have h13 := tmp_is (hB.2.2.1)
                  go_simp
                  exact hK (.int .i64 er) wx hS (Below.refl _ wx) rfl
                · intro a wx K hS hB hR hK
                  rw [if_pos (wanted_some rfl (hR.1))]
                  have h16 := tmp_is (hB.2.2.2.1)
                  go_simp
                  exact hK (.int .i64 er) wx hS (Below.refl _ wx) rfl
                · intro a wx K hS hB hR hK
                  rw [if_pos (wanted_some rfl (hR.2.2.1))]
                  have h75 := tmp_is (hR.1)
                  have h76 := tmp_is (hR.2.1)
                  have hq : (er != er) = false := by simp
                  go_simp
                  exact hK (.bool false) wx hS (Below.refl _ wx) rfl
                · intro a wx K hS hB hR hK
                  rw [if_pos (wanted_none rfl)]
                  have h74 := tmp_is (hR.1)
                  have h77 := tmp_is (hR.2.1)
                  go_simp
                  exact hK (.bool false) wx hS (Below.refl _ wx) rfl
                · intro a wx K hS hB hR hK
                  rw [if_pos (wanted_none rfl)]
                  have h78 := tmp_is (hR.1)
                  go_simp
                  exact hK (.bool false) wx hS (Below.refl _ wx) rfl
                · intro a wx K hS hB hR hK
                  rw [if_pos (wanted_some rfl (hR.1))]
                  have h8 := tmp_is (hB.2.2.2.2.1)
                  go_simp
                  exact hK (.pointer (some ⟨jb, 0, none⟩)) wx hS (Below.refl _ wx) rfl
                · intro a wx K hS hB hR hK
                  rw [if_pos (wanted_some rfl (hR.2.1))]
                  have h80 := tmp_is (hR.1)
                  go_simp
                  have hps := H7.out.below hS
                  have hg := jgot_f jb M v' l' wh' wx hps.j
                  rw [HQ2.out] at hg
                  refine hg.mono ?_
                  rintro e w' ⟨rfl, hw⟩
                  obtain rfl := hw.symm
                  exact hK _ _ hS (Below.refl _ _) rfl
                · intro a wx K hS hB hR hK
                  rw [if_pos (wanted_some rfl (hR.1))]
                  have h9 := tmp_is (hB.2.2.2.2.2.1)
                  go_simp
                  exact hK (.pointer (some ⟨w3.heap.size, 1, none⟩)) wx hS (Below.refl _ wx) rfl
                · intro a wx K hS hB hR hK
                  rw [if_pos (wanted_some rfl (hR.2.1))]
                  have h82 := tmp_is (hR.1)
                  have hps := H7.out.below hS
                  have hx := hps.x
                  rw [HQ2.out] at hx
                  obtain ⟨d0, d1, d2⟩ := three (range_blk3 hx rfl)
                  go_simp
                  exact hK (.slice A' q' c') wx hS (Below.refl _ wx) rfl
                · intro a wx K hS hB hR hK
                  rw [if_pos (wanted_some rfl (hR.2.1))]
                  have h83 := tmp_is (hR.1)
                  go_simp
                  exact hK (.int .i64 (q' : Int)) wx hS (Below.refl _ wx) rfl
                · intro a wx K hS hB hR hK
                  rw [if_pos (wanted_some rfl (hR.2.2.1))]
                  have h81 := tmp_is (hR.1)
                  have h84 := tmp_is (hR.2.1)
                  have hq : ((q' : Int) != (q' : Int)) = false := by simp
                  go_simp
                  exact hK (.bool false) wx hS (Below.refl _ wx) rfl
                · intro a wx K hS hB hR hK
                  rw [if_pos (wanted_none rfl)]
                  have h79 := tmp_is (hR.1)
                  have h85 := tmp_is (hR.2.1)
                  go_simp
                  exact hK (.bool false) wx hS (Below.refl _ wx) rfl
                · intro a wx K hS hB hR hK
                  rw [if_pos (wanted_none rfl)]
                  have h86 := tmp_is (hR.1)
                  go_simp
                  exact hK (.bool false) wx hS (Below.refl _ wx) rfl
                · intro a wx K hS hB hR hK
                  rw [if_pos (wanted_some rfl (hR.1))]
                  have h8 := tmp_is (hB.2.2.2.2.1)
                  go_simp
                  exact hK (.pointer (some ⟨jb, 0, none⟩)) wx hS (Below.refl _ wx) rfl
                · intro a wx K hS hB hR hK
                  rw [if_pos (wanted_some rfl (hR.2.1))]
                  have h88 := tmp_is (hR.1)
                  go_simp
                  have hps := H7.out.below hS
                  refine (jbytes_f jb M v' l' wh' wx hps.j).mono ?_
                  intro e w' h8
                  obtain ⟨A8, n8, c8, rfl, hc8, hn8, hb8, b8⟩ := h8.slice_
                  obtain rfl : n8 = q' := hn8.out.trans HQ2.out
                  exact hK _ _ (hS.trans (b8.mono hS.size)) b8 ⟨A8, c8, rfl, hb8⟩
                · intro a wx K hS hB hR hK
                  rw [if_pos (wanted_some rfl (hR.1))]
                  have h9 := tmp_is (hB.2.2.2.2.2.1)
                  go_simp
                  exact hK (.pointer (some ⟨w3.heap.size, 1, none⟩)) wx hS (Below.refl _ wx) rfl
                · intro a wx K hS hB hR hK
                  rw [if_pos (wanted_some rfl (hR.2.1))]
                  have h90 := tmp_is (hR.1)
                  have hps := H7.out.below hS
                  have hx := hps.x
                  rw [HQ2.out] at hx
                  obtain ⟨d0, d1, d2⟩ := three (range_blk3 hx rfl)
                  go_simp
                  exact hK (.slice A' q' c') wx hS (Below.refl _ wx) rfl
                · intro a wx K hS hB hR hK
                  rw [if_pos (wanted_some rfl (hR.2.2.2.1))]
                  have h91 := tmp_is (hR.2.1)
                  obtain ⟨A8, c8, hv, hb8⟩ := hR.1
                  have h89 := tmp_is hv
                  go_simp
                  have hps := H7.out.below hS
                  have hsa := same_any A8 A' q' c8 q' c' l' l' wx _ _ hb8 (HQ2.out ▸ hps.b) (by have := hps.j.len; have := hps.j.max; have := HQ2.out; omega) (by have := hps.j.len; have := hps.j.max; have := HQ2.out; omega)
                  rw [decide_eq_true rfl] at hsa
                  refine hsa.mono ?_
                  rintro e w' ⟨rfl, m', hw'⟩
                  have hb : Below wx.heap.size wx w' := hw' ▸ drewN_below _ _ m'
                  exact hK _ _ (hS.trans (hb.mono hS.size)) hb rfl
                · intro a wx K hS hB hR hK
                  rw [if_pos (wanted_some rfl (hR.2.1))]
                  have h92 := tmp_is (hR.1)
                  go_simp
                  exact hK (.bool false) wx hS (Below.refl _ wx) rfl
                · intro a wx K hS hB hR hK
                  rw [if_pos (wanted_none rfl)]
                  have h87 := tmp_is (hR.1)
                  have h93 := tmp_is (hR.2.1)
                  go_simp
                  exact hK (.bool false) wx hS (Below.refl _ wx) rfl
              case fin2 =>
                intro a w9 hS9 ha hR
                have h94 : a.eval (.tmp 94) = .bool false := deps_mem _ hR 23 (by decide)
                have H9 := Lib.hid hS9
                clear hR hS9
                simp only [pin] at ha
                rw [ha]
                simp only [Act.put, List.setIfInBounds_toArray, List.set_cons_zero, List.set_cons_succ, h94]
                clear ha h94
                go_wp2
                go_roundw
                case rel =>
                  exact ⟨j + 1, v', l', wh', on', A', c', by omega, by first | rfl | go_num, H7.out.below H9.out, by have := HE.out.1; have := HE.out.2.1; have := HE.out.2.2; omega⟩
                case measure => simp [intOf]; omega
          · obtain rfl : j = k := by omega
            have hkI2 : ¬ (j : Int) < j := by omega
            go_wp2
            go_ret
            exact ⟨rfl, hrel.out.1.bel⟩
end Go.Proofs.Ytdgihhepmmkkpaa
