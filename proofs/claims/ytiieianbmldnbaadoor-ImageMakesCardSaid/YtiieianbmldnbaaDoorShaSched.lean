/-
  A block's words, as the program makes them.
-/
import Derived.Test.YtiieianbmldnbaaDoorShaTurn
import Derived.StillTailTactics
import Derived.Deep.MidRow
namespace Go.Proofs.YtiieianbmldnbaaDoor
open Go.RowKit
set_option maxRecDepth 100000
/-- Words as values. -/
def W32 (l : List (BitVec 32)) : List Value := l.map fun x => Value.int .u32 (x.toNat : Int)
theorem W32_length (l : List (BitVec 32)) : (W32 l).length = l.length := List.length_map _
theorem W32_get (l : List (BitVec 32)) (k : Nat) : (W32 l)[k]? = (l[k]?).map fun x => Value.int .u32 (x.toNat : Int) := by simp [W32]
theorem W32_set (l : List (BitVec 32)) (k : Nat) (x : BitVec 32) : W32 (l.set k x) = (W32 l).set k (.int .u32 (x.toNat : Int)) := by unfold W32; rw [List.map_set]
theorem W32_one (l : List (BitVec 32)) : ∀ v ∈ W32 l, v.oneCell' = true := by
  intro v hv
  obtain ⟨x, _, rfl⟩ := List.mem_map.1 hv
  rfl
theorem range_set {w : World} {b o : Nat} {vs : List Value} (h : w.rangeAt b o vs) (ht : w.there b o vs.length) (k : Nat) (hk : k < vs.length) (v : Value) : (w.setCell ⟨b, o + k, none⟩ v).rangeAt b o (vs.set k v) := by
  intro j u hj
  by_cases hjk : k = j
  · subst hjk
    rw [List.getElem?_set_self hk] at hj
    obtain rfl := Option.some.inj hj
    obtain ⟨x, hx⟩ := Option.isSome_iff_exists.1 (ht k hk).1
    exact World.cell?_setCell_same _ _ _ hx
  · rw [List.getElem?_set_ne hjk] at hj
    rw [World.cell?_setCell_other _ _ _ _ (by intro e; injection e; omega)]
    exact h j u hj
theorem there_set {w : World} {b o n : Nat} (h : w.there b o n) (a : Addr) (v : Value) : (w.setCell a v).there b o n := by
  intro j hj
  obtain ⟨h1, h2⟩ := h j hj
  refine ⟨?_, by rw [World.frozen?_setCell]; exact h2⟩
  by_cases e : a = ⟨b, o + j, none⟩
  · subst e
    obtain ⟨x, hx⟩ := Option.isSome_iff_exists.1 h1
    rw [World.cell?_setCell_same _ _ _ hx]; rfl
  · rw [World.cell?_setCell_other _ _ _ _ e]; exact h1
def be32 (a b c d : UInt8) : BitVec 32 := w8 a <<< 24 ||| w8 b <<< 16 ||| w8 c <<< 8 ||| w8 d
/-- The block's word i. -/
def mw (blk : List UInt8) (i : Nat) : BitVec 32 := be32 (blk.getD (4 * i) 0) (blk.getD (4 * i + 1) 0) (blk.getD (4 * i + 2) 0) (blk.getD (4 * i + 3) 0)
def sg0 (x : BitVec 32) : BitVec 32 := rotr x 7 ^^^ rotr x 18 ^^^ x >>> 3
def sg1 (x : BitVec 32) : BitVec 32 := rotr x 17 ^^^ rotr x 19 ^^^ x >>> 10
def nx (w : List (BitVec 32)) (i : Nat) : BitVec 32 := w.getD (i - 16) 0 + sg0 (w.getD (i - 15) 0) + w.getD (i - 7) 0 + sg1 (w.getD (i - 2) 0)
/-- The first k of a block's words; the others are 0. -/
def wl (blk : List UInt8) : Nat → List (BitVec 32)
  | 0 => List.replicate 64 0#32
  | k + 1 => (wl blk k).set k (if k < 16 then mw blk k else nx (wl blk k) k)
theorem wl_length (blk : List UInt8) (k : Nat) : (wl blk k).length = 64 := by
  induction k with
  | zero => simp [wl]
  | succ k ih => simp [wl, ih]
theorem mod8 (u : UInt8) : (u.toNat : Int) % 4294967296 = ((w8 u).toNat : Int) := by
  rw [w8_toNat]; have := u.toNat_lt; omega
theorem be32_walk (a b c d : UInt8) : bits .or .u32 (bits .or .u32 (bits .or .u32 ((a.toNat : Int) % 4294967296 * 16777216 % 4294967296) ((b.toNat : Int) % 4294967296 * 65536 % 4294967296)) ((c.toNat : Int) % 4294967296 * 256 % 4294967296)) ((d.toNat : Int) % 4294967296) = ((be32 a b c d).toNat : Int) := by
  rw [or32, or32, or32, of32, of32, ofMod32, ofMod32, ofMod32, mod8, mod8, mod8, mod8, of32]
  rw [show (16777216 : Int) = 2 ^ 24 from rfl, show (65536 : Int) = 2 ^ 16 from rfl, show (256 : Int) = 2 ^ 8 from rfl, shl32, shl32, shl32]
  rfl
theorem sg0_walk (x : BitVec 32) : bits .xor .u32 (bits .xor .u32 ((rotr x 7).toNat : Int) ((rotr x 18).toNat : Int)) ((x.toNat : Int) / 8) = ((sg0 x).toNat : Int) := by
  rw [xor32, xor32, of32, of32, of32, show (x.toNat : Int) / (8 : Int) = ((x >>> 3).toNat : Int) from shr32 x 3, of32]; rfl
theorem sg1_walk (x : BitVec 32) : bits .xor .u32 (bits .xor .u32 ((rotr x 17).toNat : Int) ((rotr x 19).toNat : Int)) ((x.toNat : Int) / 1024) = ((sg1 x).toNat : Int) := by
  rw [xor32, xor32, of32, of32, of32, show (x.toNat : Int) / (1024 : Int) = ((x >>> 10).toNat : Int) from shr32 x 10, of32]; rfl
theorem add32 (x y : BitVec 32) : ((x.toNat : Int) + (y.toNat : Int)) % 4294967296 = ((x + y).toNat : Int) := by
  rw [BitVec.toNat_add]; omega
theorem size64 : (Tryd.prog.info? 79).map (·.size) = some 64 := by kernel_rfl
theorem drewN_below (w : World) (B m : Nat) : Below B w (w.drewN m) := ⟨rfl, rfl, rfl, Nat.le_refl _, fun _ _ => rfl⟩
theorem results_cell_mid {P : Program} {fn : Func} {p : Tmp} {ty : TypeId} (h : fn.results = #[.cell p ty]) (tmps : Array Value) (w : World) (b o : Nat) (cs : List Value) (d : TypeDesc)
    (hp : tmps.getD p undef = .pointer (some ⟨b, o, none⟩)) (hc : w.rangeAt b o cs) (hu : P.underlying ty = some d) (hd : d.isRow = true) (hi : (P.info? ty).map (·.size) = some cs.length) :
    (results fn tmps).run P w = .ok (.agg cs.toArray) w := by
  have hp' : tmps[p]?.getD undef = .pointer (some ⟨b, o, none⟩) := by simpa using hp
  simp [results, h, hp', asAddr, run_loadVar_mid w b o ty cs d hc hu hd hi]
theorem below_setCells {B : Nat} {a w : World} (h : Below B a w) {b : Nat} (hb : B ≤ b) (vs : List Value) : ∀ (o : Nat), Below B a (w.setCells b o vs) := by
  induction vs generalizing w with
  | nil => intro o; exact h
  | cons v vs ih => intro o; rw [World.setCells]; exact ih (h.setCell (p := ⟨b, o, none⟩) hb v) (o + 1)
theorem nx_walk (a b c d : BitVec 32) : ((a.toNat : Int) + (b.toNat : Int) + (c.toNat : Int) + (d.toNat : Int)) % 4294967296 = ((a + b + c + d).toNat : Int) := by
  rw [BitVec.toNat_add, BitVec.toNat_add, BitVec.toNat_add]; omega
theorem range_new1 (w : World) (A : Obj) (cs : Array Value) (t : TypeId) {vs : List Value} (h : cs.toList = vs) : ((w.alloc A).alloc (.cells cs t)).rangeAt (w.heap.size + 1) 0 vs := by
  intro j v hj
  subst h
  rw [Nat.zero_add, cell_of_row _ _ _ _ _ _ (heap_alloc2_new w A _), ← Array.getElem?_toList]; exact hj
theorem there_new1 (w : World) (A : Obj) (cs : Array Value) (t : TypeId) {n : Nat} (h : cs.size = n) : ((w.alloc A).alloc (.cells cs t)).there (w.heap.size + 1) 0 n := by
  intro j hj
  rw [Nat.zero_add, cell_of_row _ _ _ _ _ _ (heap_alloc2_new w A _), frozen_of_row _ _ _ _ _ (heap_alloc2_new w A _)]
  exact ⟨by simp [h, hj], rfl⟩
theorem there_new0 (w : World) (cs : Array Value) (t : TypeId) (B : Obj) {n : Nat} (h : cs.size = n) : ((w.alloc (.cells cs t)).alloc B).there w.heap.size 0 n := by
  intro j hj
  rw [Nat.zero_add, cell_of_row _ _ _ _ _ _ (heap_alloc2_old w _ B), frozen_of_row _ _ _ _ _ (heap_alloc2_old w _ B)]
  exact ⟨by simp [h, hj], rfl⟩
theorem turn_q (x : BitVec 32) (n : Int) (h1 : 1 ≤ n) (h2 : n ≤ 31) (w : World) : Calls Tryd.prog 62 #[.int .u32 (x.toNat : Int), .int .i64 n] w fun e w' => e = .returned (.int .u32 ((rotr x n.toNat).toNat : Int)) ∧ w' = w := by
  obtain ⟨m, rfl⟩ := Int.eq_ofNat_of_zero_le (show 0 ≤ n by omega)
  exact (turn_any x m h1 h2 w).mono fun _ _ ⟨he, hw⟩ => ⟨he, hw.symm⟩
theorem quiet_more {P : Program} {f : FuncId} {args : Array Value} {w : World} {n a : Nat} {v : Value} (h : Calls P f args (w.drewN (n + a)) fun e w' => e = .returned v ∧ w' = w.drewN (n + a)) :
    Calls P f args (w.drewN (n + a)) fun e w'' => e = .returned v ∧ ∃ m, w'' = w.drewN (n + m) :=
  h.mono fun _ _ ⟨he, hm⟩ => ⟨he, a, hm⟩
set_option maxHeartbeats 1600000 in
theorem sched_any (b off : Nat) (n c : Nat) (blk : List UInt8) (w : World) (B : Nat) (hbs : Bs w B (some ⟨b, off, none⟩) n blk) (hn : 64 ≤ n) (hB : B ≤ w.heap.size) :
    Calls Tryd.prog 61 #[.slice (some ⟨b, off, none⟩) n c] w fun e w' => e = .returned (.agg (W32 (wl blk 64)).toArray) ∧ Below w.heap.size w w' := by
  have hlen := Lib.hid hbs.len
  go_enter Tryd.func61, Tryd.ntmps61
  go_wp2
  go_loopw [8] (fun i wr => ∃ k : Nat, k ≤ 16 ∧ i = .int .i64 k ∧ wr.rangeAt (w.heap.size + 1) 0 (W32 (wl blk k)) ∧ wr.there (w.heap.size + 1) 0 64 ∧ wr.there w.heap.size 0 64 ∧ Below w.heap.size w wr) (fun i _ => 16 - (intOf i).toNat)
  case atStart => 
    refine ⟨0, by omega, rfl, ?_, ?_, ?_, ((Below.refl _ _).alloc (Nat.le_refl _) _).alloc (by simp) _⟩
    · exact range_new1 _ _ _ _ (by rfl)
    · exact there_new1 _ _ _ _ (by rfl)
    · exact there_new0 _ _ _ _ (by rfl)
  case round =>
    obtain ⟨k, hk, rfl, hr, ht1, ht0, hbel⟩ := hrel
    by_cases hlt : k < 16
    · obtain ⟨u0, hu0⟩ := byte_get (l := blk) (k := 4 * k) (by rw [hlen.out]; omega)
      obtain ⟨u1, hu1⟩ := byte_get (l := blk) (k := 4 * k + 1) (by rw [hlen.out]; omega)
      obtain ⟨u2, hu2⟩ := byte_get (l := blk) (k := 4 * k + 2) (by rw [hlen.out]; omega)
      obtain ⟨u3, hu3⟩ := byte_get (l := blk) (k := 4 * k + 3) (by rw [hlen.out]; omega)
      obtain ⟨b', off', he, hb', hc'⟩ := (hbs.below' hbel hB).place (by omega)
      injection he with he
      injection he with he1 he2 _
      subst he1 he2
      have hk0 := hc' _ _ hu0
      have hk1 := hc' _ _ hu1
      have hk2 := hc' _ _ hu2
      have hk3 := hc' _ _ hu3
      have Hm := Lib.hid (show mw blk k = be32 u0 u1 u2 u3 by unfold mw; simp only [List.getD_eq_getElem?_getD, hu0, hu1, hu2, hu3, Option.getD_some])
      obtain ⟨hc0, hf0⟩ := ht1 k (by omega)
      obtain ⟨v0, hv0⟩ := Option.isSome_iff_exists.1 hc0
      rw [Nat.zero_add] at hv0 hf0
      have e0 : IntKind.i64.wrap (4 * (k : Int)) = 4 * (k : Int) := IntWalk.i64_in _ (by omega)
      have e1 : IntKind.i64.wrap (4 * (k : Int) + 1) = 4 * (k : Int) + 1 := IntWalk.i64_in _ (by omega)
      have e2 : IntKind.i64.wrap (4 * (k : Int) + 2) = 4 * (k : Int) + 2 := IntWalk.i64_in _ (by omega)
      have e3 : IntKind.i64.wrap (4 * (k : Int) + 3) = 4 * (k : Int) + 3 := IntWalk.i64_in _ (by omega)
      have f0 : (4 * (k : Int)).toNat = 4 * k := by omega
      have f1 : (4 * (k : Int) + 1).toNat = 4 * k + 1 := by omega
      have f2 : (4 * (k : Int) + 2).toNat = 4 * k + 2 := by omega
      have f3 : (4 * (k : Int) + 3).toNat = 4 * k + 3 := by omega
      have g0 : 4 * (k : Int) < (n : Int) := by omega
      have g1 : 4 * (k : Int) + 1 < (n : Int) := by omega
      have g2 : 4 * (k : Int) + 2 < (n : Int) := by omega
      have g3 : 4 * (k : Int) + 3 < (n : Int) := by omega
      have p0 : 0 ≤ 4 * (k : Int) := by omega
      have p1 : 0 ≤ 4 * (k : Int) + 1 := by omega
      have p2 : 0 ≤ 4 * (k : Int) + 2 := by omega
      have p3 : 0 ≤ 4 * (k : Int) + 3 := by omega
      have q : (k : Int) < 64 := by omega
      clear hu0 hu1 hu2 hu3 hc' hc0
      go_wp2
      go_still_tail 35, (by kernel_rfl)
      have hck2 : World.cell? { heap := wr.heap, tape := wr.tape, drawn := wr.drawn + 1, os := wr.os, output := wr.output } ⟨w.heap.size + 1, k, none⟩ = some v0 := hv0
      have hfr2 : World.frozen? { heap := wr.heap, tape := wr.tape, drawn := wr.drawn + 1, os := wr.os, output := wr.output } ⟨w.heap.size + 1, k, none⟩ = false := hf0
      go_wp2
      go_roundw
      case rel =>
        rw [be32_walk]
        refine ⟨k + 1, by omega, by go_num, ?_, ?_, ?_, ?_⟩
        · rw [wl, if_pos hlt, Hm.out, W32_set]
          have := range_set hr (by rw [W32_length, wl_length]; exact ht1) k (by rw [W32_length, wl_length]; omega) (.int .u32 ((be32 u0 u1 u2 u3).toNat : Int))
          rw [Nat.zero_add] at this
          exact this
        · exact there_set ht1 _ _
        · exact there_set ht0 _ _
        · exact (Below.drew hbel).setCell (by simp) _
      case measure => simp [intOf]; omega
    · obtain rfl : 16 = k := by omega
      go_wp2
      rw [show (((16 : Nat) : Int)) = 16 from rfl]
      go_loopw [5] (fun i wr => ∃ k : Nat, 16 ≤ k ∧ k ≤ 64 ∧ i = .int .i64 k ∧ wr.rangeAt (w.heap.size + 1) 0 (W32 (wl blk k)) ∧ wr.there (w.heap.size + 1) 0 64 ∧ wr.there w.heap.size 0 64 ∧ Below w.heap.size w wr) (fun i _ => 64 - (intOf i).toNat)
      case atStart => exact ⟨16, by omega, by omega, rfl, hr, ht1, ht0, hbel⟩
      case round =>
        clear hr ht1 ht0 hbel
        obtain ⟨k, hk16, hk, rfl, hr, ht1, ht0, hbel⟩ := hrel
        by_cases hlt : k < 64
        · have word : ∀ j, j < 64 → wr.cell? ⟨w.heap.size + 1, j, none⟩ = some (.int .u32 (((wl blk k).getD j 0).toNat : Int)) := by
            intro j hj
            have := hr j (.int .u32 (((wl blk k).getD j 0).toNat : Int)) (by rw [W32_get, List.getD_eq_getElem?_getD, List.getElem?_eq_getElem (by rw [wl_length]; exact hj)]; rfl)
            rwa [Nat.zero_add] at this
          have c16 := word (k - 16) (by omega)
          have c15 := word (k - 15) (by omega)
          have c7 := word (k - 7) (by omega)
          have c2 := word (k - 2) (by omega)
          have ck := word k hlt
          have hfk := (ht1 k hlt).2
          rw [Nat.zero_add] at hfk
          clear word
          have Hn := Lib.hid (show nx (wl blk k) k = (wl blk k).getD (k - 16) 0 + sg0 ((wl blk k).getD (k - 15) 0) + (wl blk k).getD (k - 7) 0 + sg1 ((wl blk k).getD (k - 2) 0) from rfl)
          generalize (wl blk k).getD (k - 16) 0 = x16 at *
          generalize (wl blk k).getD (k - 15) 0 = x15 at *
          generalize (wl blk k).getD (k - 7) 0 = x7 at *
          generalize (wl blk k).getD (k - 2) 0 = x2 at *
          generalize (wl blk k).getD k 0 = xk at *
          have e16 : IntKind.i64.wrap ((k : Int) - 16) = (k : Int) - 16 := IntWalk.i64_in _ (by omega)
          have e15 : IntKind.i64.wrap ((k : Int) - 15) = (k : Int) - 15 := IntWalk.i64_in _ (by omega)
          have e7 : IntKind.i64.wrap ((k : Int) - 7) = (k : Int) - 7 := IntWalk.i64_in _ (by omega)
          have e2 : IntKind.i64.wrap ((k : Int) - 2) = (k : Int) - 2 := IntWalk.i64_in _ (by omega)
          have f16 : ((k : Int) - 16).toNat = k - 16 := by omega
          have f15 : ((k : Int) - 15).toNat = k - 15 := by omega
          have f7 : ((k : Int) - 7).toNat = k - 7 := by omega
          have f2 : ((k : Int) - 2).toNat = k - 2 := by omega
          have p16 : 0 ≤ (k : Int) - 16 := by omega
          have p15 : 0 ≤ (k : Int) - 15 := by omega
          have p7 : 0 ≤ (k : Int) - 7 := by omega
          have p2 : 0 ≤ (k : Int) - 2 := by omega
          have r16 : 16 ≤ (k : Int) := by omega
          have r15 : 15 ≤ (k : Int) := by omega
          have r7 : 7 ≤ (k : Int) := by omega
          have r2 : 2 ≤ (k : Int) := by omega
          have q16 : (k : Int) - 16 < 64 := by omega
          have q15 : (k : Int) - 15 < 64 := by omega
          have q7 : (k : Int) - 7 < 64 := by omega
          have q2 : (k : Int) - 2 < 64 := by omega
          have qk : (k : Int) < 64 := by omega
          go_wp2
          go_quiet ((go_at_call 62; exact Calls.quiet_of_same (turn_q _ _ (by decide) (by decide) _)))
          obtain ⟨n1, rfl⟩ : ∃ n1 : Nat, n1 = nq := ⟨_, rfl⟩
          go_wp2
          rw [sg0_walk]
          go_quiet ((go_at_call 62; exact quiet_more (turn_q _ _ (by decide) (by decide) _)))
          go_wp2
          rw [sg1_walk]
          generalize hwq : (wr.drewN n1).drewN nq = wq
          replace c16 : wq.cell? ⟨w.heap.size + 1, k - 16, none⟩ = some (.int .u32 (x16.toNat : Int)) := by rw [← hwq]; exact c16
          replace c7 : wq.cell? ⟨w.heap.size + 1, k - 7, none⟩ = some (.int .u32 (x7.toNat : Int)) := by rw [← hwq]; exact c7
          replace ck : wq.cell? ⟨w.heap.size + 1, k, none⟩ = some (.int .u32 (xk.toNat : Int)) := by rw [← hwq]; exact ck
          replace hfk : wq.frozen? ⟨w.heap.size + 1, k, none⟩ = false := by rw [← hwq]; exact hfk
          replace hr : wq.rangeAt (w.heap.size + 1) 0 (W32 (wl blk k)) := by rw [← hwq]; exact hr
          replace ht1 : wq.there (w.heap.size + 1) 0 64 := by rw [← hwq]; exact ht1
          replace ht0 : wq.there w.heap.size 0 64 := by rw [← hwq]; exact ht0
          replace hbel : Below w.heap.size w wq := by rw [← hwq]; exact (hbel.trans (drewN_below wr _ n1)).trans (drewN_below _ _ nq)
          clear c15 c2 hwq
          go_still_tail 15, (by kernel_rfl)
          have hck2 : World.cell? { heap := wq.heap, tape := wq.tape, drawn := wq.drawn + 1, os := wq.os, output := wq.output } ⟨w.heap.size + 1, k, none⟩ = some (.int .u32 (xk.toNat : Int)) := ck
          have hfr2 : World.frozen? { heap := wq.heap, tape := wq.tape, drawn := wq.drawn + 1, os := wq.os, output := wq.output } ⟨w.heap.size + 1, k, none⟩ = false := hfk
          go_wp2
          go_roundw
          case rel =>
            refine ⟨k + 1, by omega, by omega, by go_num, ?_, there_set ht1 _ _, there_set ht0 _ _, (Below.drew hbel).setCell (by simp) _⟩
            have hset := range_set hr (by rw [W32_length, wl_length]; exact ht1) k (by rw [W32_length, wl_length]; omega) (.int .u32 ((x16 + sg0 x15 + x7 + sg1 x2).toNat : Int))
            rw [wl, if_neg (by omega), Hn.out, W32_set, nx_walk]
            rw [Nat.zero_add] at hset
            exact hset
          case measure => simp [intOf]; omega
        · obtain rfl : 64 = k := by omega
          go_wp2_with (first
            | (refine wpList_load_mid rfl 79 (.tmp 3) rfl (w.heap.size + 1) 0 rfl (W32 (wl blk 64)) _ hr Tryd.underlying79 rfl (by rw [size64, W32_length, wl_length]) ?_)
            | (refine wpList_store_mid rfl 79 (.tmp 2) (.tmp 100) rfl w.heap.size 0 (W32 (wl blk 64)).toArray rfl rfl (by simpa [W32_length, wl_length] using ht0) (by rw [size64]; simp [W32_length, wl_length]) (all_oneCell_toArray (W32_one _)) ?_))
          refine bodyPost_ret (results_cell_mid Tryd.results61 _ _ w.heap.size 0 (W32 (wl blk 64)) _ rfl ?_ Tryd.underlying79 rfl (by rw [size64, W32_length, wl_length])) rfl ?_
          · exact World.rangeAt_setCells_same _ _ _ _ (by simpa [W32_length, wl_length] using ht0)
          · exact ⟨rfl, below_setCells hbel (Nat.le_refl _) _ 0⟩
end Go.Proofs.YtiieianbmldnbaaDoor
