/-
  A block mixed into eight words, as the program does it.
-/
import Derived.Test.YtiieianbmldnbaaDoorShaSched
namespace Go.Proofs.YtiieianbmldnbaaDoor
open Go.RowKit
set_option maxRecDepth 100000
/-- The eight words while a block is mixed in. -/
structure S8 where
  (a b c d e f g h : BitVec 32)
def S8.list (s : S8) : List (BitVec 32) := [s.a, s.b, s.c, s.d, s.e, s.f, s.g, s.h]
def ch (e f g : BitVec 32) : BitVec 32 := (e &&& f) ^^^ (~~~ e &&& g)
def maj (a b c : BitVec 32) : BitVec 32 := (a &&& b) ^^^ (a &&& c) ^^^ (b &&& c)
def bs1 (e : BitVec 32) : BitVec 32 := rotr e 6 ^^^ rotr e 11 ^^^ rotr e 25
def bs0 (a : BitVec 32) : BitVec 32 := rotr a 2 ^^^ rotr a 13 ^^^ rotr a 22
def t1 (s : S8) (k w : BitVec 32) : BitVec 32 := s.h + bs1 s.e + ch s.e s.f s.g + k + w
def t2 (s : S8) : BitVec 32 := bs0 s.a + maj s.a s.b s.c
def rstep (s : S8) (k w : BitVec 32) : S8 := ⟨t1 s k w + t2 s, s.a, s.b, s.c, s.d + t1 s k w, s.e, s.f, s.g⟩
/-- The words of the rounds. -/
def KS : List (BitVec 32) := [1116352408, 1899447441, 3049323471, 3921009573, 961987163, 1508970993, 2453635748, 2870763221, 3624381080, 310598401, 607225278, 1426881987, 1925078388, 2162078206, 2614888103, 3248222580, 3835390401, 4022224774, 264347078, 604807628, 770255983, 1249150122, 1555081692, 1996064986, 2554220882, 2821834349, 2952996808, 3210313671, 3336571891, 3584528711, 113926993, 338241895, 666307205, 773529912, 1294757372, 1396182291, 1695183700, 1986661051, 2177026350, 2456956037, 2730485921, 2820302411, 3259730800, 3345764771, 3516065817, 3600352804, 4094571909, 275423344, 430227734, 506948616, 659060556, 883997877, 958139571, 1322822218, 1537002063, 1747873779, 1955562222, 2024104815, 2227730452, 2361852424, 2428436474, 2756734187, 3204031479, 3329325298]
def rn (ws : List (BitVec 32)) (s : S8) : Nat → S8
  | 0 => s
  | k + 1 => rstep (rn ws s k) (KS.getD k 0) (ws.getD k 0)
/-- The first k words of two rows added. -/
def addTo (xs ys : List (BitVec 32)) : Nat → List (BitVec 32)
  | 0 => xs
  | k + 1 => (addTo xs ys k).set k (xs.getD k 0 + ys.getD k 0)
theorem addTo_length (xs ys : List (BitVec 32)) (k : Nat) : (addTo xs ys k).length = xs.length := by
  induction k with
  | zero => rfl
  | succ k ih => simp [addTo, ih]
theorem addTo_get (xs ys : List (BitVec 32)) (k j : Nat) (h : k ≤ j) : (addTo xs ys k)[j]? = xs[j]? := by
  induction k with
  | zero => rfl
  | succ k ih => rw [addTo, List.getElem?_set_ne (by omega), ih (by omega)]
/-- The words behind a block. -/
def mixed (s : S8) (blk : List UInt8) : S8 :=
  let r := rn (wl blk 64) s 64
  ⟨s.a + r.a, s.b + r.b, s.c + r.c, s.d + r.d, s.e + r.e, s.f + r.f, s.g + r.g, s.h + r.h⟩
theorem size8 : (Tryd.prog.info? 78).map (·.size) = some 8 := by kernel_rfl
theorem KS_length : KS.length = 64 := rfl
theorem sched_hid (b off : Nat) (n c : Nat) (blk : List UInt8) (w : World) (B : Nat) (hbs : Bs w B (some ⟨b, off, none⟩) n blk) (hn : 64 ≤ n) (hB : B ≤ w.heap.size) :
    Calls Tryd.prog 61 #[.slice (some ⟨b, off, none⟩) n c] w fun e w' => ∃ vs : List Value, Hid (vs = W32 (wl blk 64)) ∧ e = .returned (.agg vs.toArray) ∧ Below w.heap.size w w' :=
  (sched_any b off n c blk w B hbs hn hB).mono fun _ _ ⟨he, hw⟩ => ⟨_, rfl, he, hw⟩
theorem there_new (w : World) (cs : Array Value) (t : TypeId) {n : Nat} (h : cs.size = n) : (w.alloc (.cells cs t)).there w.heap.size 0 n := by
  intro j hj
  rw [Nat.zero_add, cell_of_row _ _ _ _ _ _ (heap_alloc_new w _), frozen_of_row _ _ _ _ _ (heap_alloc_new w _)]
  exact ⟨by simp [h, hj], rfl⟩
theorem range_new0 (w : World) (cs : Array Value) (t : TypeId) (B : Obj) {vs : List Value} (h : cs.toList = vs) : ((w.alloc (.cells cs t)).alloc B).rangeAt w.heap.size 0 vs := by
  intro j v hj
  subst h
  rw [Nat.zero_add, cell_of_row _ _ _ _ _ _ (heap_alloc2_old w _ B), ← Array.getElem?_toList]; exact hj
theorem range_below {B b o : Nat} {w w' : World} {vs : List Value} (h : w.rangeAt b o vs) (hb : Below B w w') (hl : b < B) : w'.rangeAt b o vs :=
  fun j v hj => (hb.cell (p := ⟨b, o + j, none⟩) hl).trans (h j v hj)
theorem there_below {B b o n : Nat} {w w' : World} (h : w.there b o n) (hb : Below B w w') (hl : b < B) : w'.there b o n :=
  fun j hj => by rw [hb.cell (p := ⟨b, o + j, none⟩) hl, hb.frozen (p := ⟨b, o + j, none⟩) hl]; exact h j hj
theorem bs1_walk (e : BitVec 32) : bits .xor .u32 (bits .xor .u32 ((rotr e 6).toNat : Int) ((rotr e 11).toNat : Int)) ((rotr e 25).toNat : Int) = ((bs1 e).toNat : Int) := by
  rw [xor32, xor32, of32, of32, of32, of32]; rfl
theorem bs0_walk (a : BitVec 32) : bits .xor .u32 (bits .xor .u32 ((rotr a 2).toNat : Int) ((rotr a 13).toNat : Int)) ((rotr a 22).toNat : Int) = ((bs0 a).toNat : Int) := by
  rw [xor32, xor32, of32, of32, of32, of32]; rfl
theorem ch_walk (e f g : BitVec 32) : bits .xor .u32 (bits .and .u32 (e.toNat : Int) (f.toNat : Int)) (bits .and .u32 (bits .xor .u32 (if IntKind.u32.signed = true then -1 else IntKind.u32.max) (e.toNat : Int)) (g.toNat : Int)) = ((ch e f g).toNat : Int) := by
  rw [xor32, and32, and32, xor32, of32, of32, of32, of32, of32, of32, show BitVec.ofInt 32 (if IntKind.u32.signed = true then -1 else IntKind.u32.max) = BitVec.allOnes 32 from rfl, BitVec.allOnes_xor]; rfl
theorem maj_walk (a b c : BitVec 32) : bits .xor .u32 (bits .xor .u32 (bits .and .u32 (a.toNat : Int) (b.toNat : Int)) (bits .and .u32 (a.toNat : Int) (c.toNat : Int))) (bits .and .u32 (b.toNat : Int) (c.toNat : Int)) = ((maj a b c).toNat : Int) := by
  rw [xor32, xor32, and32, and32, and32, of32, of32, of32, of32, of32, of32, of32]; rfl
theorem sum5 (a b c d e : BitVec 32) : ((a.toNat : Int) + (b.toNat : Int) + (c.toNat : Int) + (d.toNat : Int) + (e.toNat : Int)) % 4294967296 = ((a + b + c + d + e).toNat : Int) := by
  rw [BitVec.toNat_add, BitVec.toNat_add, BitVec.toNat_add, BitVec.toNat_add]; omega
theorem run_index_arr {P : Program} (w : World) (T e : TypeId) (len : Nat) (cs : Array Value) (i : TypeInfo) (kk : IntKind) (k : Nat) (v : Value) (hT : P.underlying T = some (.array len e)) (hk : k < len) (hi : P.info? e = some i) (hs : i.size = 1) (hu : P.underlying e = some (.int kk)) (hv : cs[k]? = some v) : (Instr.index T (.agg cs) (.int .i64 (k : Int))).run P w = .ok v w := by
  simp [Instr.index, asIntOf, run_underlying hT, sizeOf, typeInfo, hi, hs, hk, part, isAgg, run_underlying hu, hv]
theorem info_u32 : (Tryd.prog.info? 22).map (fun i => (i.zero, i.size, i.bytes)) = some (some (.int .u32 0), 1, 4) := by kernel_rfl
theorem add8 (s r : S8) : addTo s.list r.list 8 = [s.a + r.a, s.b + r.b, s.c + r.c, s.d + r.d, s.e + r.e, s.f + r.f, s.g + r.g, s.h + r.h] := rfl
theorem S8.list_length (s : S8) : s.list.length = 8 := rfl
theorem gen_world {F : World → Prop} {W0 : World} (P : World → Prop) (h0 : P W0) (h : ∀ W, P W → F W) : F W0 := h W0 h0
set_option maxRecDepth 100000 in
set_option maxHeartbeats 1600000 in
theorem mix_any (s : S8) (b off : Nat) (n c : Nat) (blk : List UInt8) (w : World) (B : Nat) (hbs : Bs w B (some ⟨b, off, none⟩) n blk) (hn : 64 ≤ n) (hB : B ≤ w.heap.size) (hK : w.rangeAt 1 0 (W32 KS)) (h1 : 1 < w.heap.size) :
    Calls Tryd.prog 57 #[.agg (W32 s.list).toArray, .slice (some ⟨b, off, none⟩) n c] w fun e w' => e = .returned (.agg (W32 (mixed s blk).list).toArray) ∧ Below w.heap.size w w' := by
  have hp : (W32 s.list).toArray = #[.int .u32 (s.a.toNat : Int), .int .u32 (s.b.toNat : Int), .int .u32 (s.c.toNat : Int), .int .u32 (s.d.toNat : Int), .int .u32 (s.e.toNat : Int), .int .u32 (s.f.toNat : Int), .int .u32 (s.g.toNat : Int), .int .u32 (s.h.toNat : Int)] := rfl
  rw [hp]
  clear hp
  go_enter Tryd.func57, Tryd.ntmps57
  go_wp2_with fail
  refine (sched_hid b off n c blk _ B ((hbs.alloc hB _).alloc (by simp; omega) _) hn (by simp; omega)).mono ?_
  rintro e w1 ⟨vs, hvs, rfl, hw1⟩
  have hvn : vs.length = 64 := by rw [hvs.out, W32_length, wl_length]
  have Hsz : Hid (vs.toArray.size = 64) := hvn
  have Hvn := Lib.hid hvn; clear hvn
  go_wp2_with (refine wpList_store_mid rfl 79 (.tmp 5) (.tmp 20) rfl w1.heap.size 0 vs.toArray rfl rfl (by rw [Hsz.out]; exact there_new _ _ _ rfl) (by rw [size64, Hsz.out]) (by rw [hvs.out]; exact all_oneCell_toArray (W32_one _)) ?_)
  have hA := range_below (range_new0 w #[.int .u32 (s.a.toNat : Int), .int .u32 (s.b.toNat : Int), .int .u32 (s.c.toNat : Int), .int .u32 (s.d.toNat : Int), .int .u32 (s.e.toNat : Int), .int .u32 (s.f.toNat : Int), .int .u32 (s.g.toNat : Int), .int .u32 (s.h.toNat : Int)] 78 (.cells #[.int .u32 0, .int .u32 0, .int .u32 0, .int .u32 0, .int .u32 0, .int .u32 0, .int .u32 0, .int .u32 0] 78) (vs := W32 s.list) rfl) hw1 (by simp; omega)
  have hAt := there_below (there_new0 w #[.int .u32 (s.a.toNat : Int), .int .u32 (s.b.toNat : Int), .int .u32 (s.c.toNat : Int), .int .u32 (s.d.toNat : Int), .int .u32 (s.e.toNat : Int), .int .u32 (s.f.toNat : Int), .int .u32 (s.g.toNat : Int), .int .u32 (s.h.toNat : Int)] 78 (.cells #[.int .u32 0, .int .u32 0, .int .u32 0, .int .u32 0, .int .u32 0, .int .u32 0, .int .u32 0, .int .u32 0] 78) (n := 8) rfl) hw1 (by simp; omega)
  have hRt := there_below (there_new1 w (.cells #[.int .u32 (s.a.toNat : Int), .int .u32 (s.b.toNat : Int), .int .u32 (s.c.toNat : Int), .int .u32 (s.d.toNat : Int), .int .u32 (s.e.toNat : Int), .int .u32 (s.f.toNat : Int), .int .u32 (s.g.toNat : Int), .int .u32 (s.h.toNat : Int)] 78) #[.int .u32 0, .int .u32 0, .int .u32 0, .int .u32 0, .int .u32 0, .int .u32 0, .int .u32 0, .int .u32 0] 78 (n := 8) rfl) hw1 (by simp)
  have B1 : Below w.heap.size w w1 := (((Below.refl _ _).alloc (Nat.le_refl _) _).alloc (by simp) _).trans (hw1.mono (by simp; omega))
  have hK1 := range_below hK B1 h1
  have hs1 : w.heap.size + 1 < w1.heap.size := by have := hw1.size; simp at this; omega
  clear hw1 hK
  refine gen_world (F := fun W => Code.wp Tryd.prog _ _ _ W) (fun W => W.rangeAt w1.heap.size 0 vs ∧ W.rangeAt w.heap.size 0 (W32 s.list) ∧ W.there w.heap.size 0 8 ∧ W.there (w.heap.size + 1) 0 8 ∧ W.rangeAt 1 0 (W32 KS) ∧ Below w.heap.size w W) ⟨?_, ?_, ?_, ?_, ?_, ?_⟩ ?_
  · exact World.rangeAt_setCells_same _ _ _ _ (by rw [Hvn.out]; exact there_new _ _ _ rfl)
  · exact World.rangeAt_setCells_apart (World.rangeAt_alloc hA _) _ _ _ (Or.inl (by omega))
  · exact World.there_setCells (World.there_alloc hAt _) _ _ _
  · exact World.there_setCells (World.there_alloc hRt _) _ _ _
  · exact World.rangeAt_setCells_apart (World.rangeAt_alloc hK1 _) _ _ _ (Or.inl (by omega))
  · exact below_setCells (B1.alloc B1.size _) B1.size _ 0
  clear hA hAt hRt hK1 B1 hbs
  rintro W ⟨hV, hA, hAt, hRt, hK, hbel⟩
  obtain ⟨g, hg⟩ : ∃ g, g = w1.heap.size := ⟨_, rfl⟩
  rw [← hg] at hV hs1 ⊢
  clear hg
  have a0 : W.cell? ⟨w.heap.size, 0, none⟩ = some (.int .u32 (s.a.toNat : Int)) := hA 0 _ rfl
  have a1 : W.cell? ⟨w.heap.size, 1, none⟩ = some (.int .u32 (s.b.toNat : Int)) := hA 1 _ rfl
  have a2 : W.cell? ⟨w.heap.size, 2, none⟩ = some (.int .u32 (s.c.toNat : Int)) := hA 2 _ rfl
  have a3 : W.cell? ⟨w.heap.size, 3, none⟩ = some (.int .u32 (s.d.toNat : Int)) := hA 3 _ rfl
  have a4 : W.cell? ⟨w.heap.size, 4, none⟩ = some (.int .u32 (s.e.toNat : Int)) := hA 4 _ rfl
  have a5 : W.cell? ⟨w.heap.size, 5, none⟩ = some (.int .u32 (s.f.toNat : Int)) := hA 5 _ rfl
  have a6 : W.cell? ⟨w.heap.size, 6, none⟩ = some (.int .u32 (s.g.toNat : Int)) := hA 6 _ rfl
  have a7 : W.cell? ⟨w.heap.size, 7, none⟩ = some (.int .u32 (s.h.toNat : Int)) := hA 7 _ rfl
  go_quiet (fail)
  clear a0 a1 a2 a3 a4 a5 a6 a7
  refine gen_world (F := fun W' => Exit.then _ _ Exit.normal _ W') (fun W => W.rangeAt g 0 vs ∧ W.rangeAt w.heap.size 0 (W32 s.list) ∧ W.there w.heap.size 0 8 ∧ W.there (w.heap.size + 1) 0 8 ∧ W.rangeAt 1 0 (W32 KS) ∧ Below w.heap.size w W) ⟨hV, hA, hAt, hRt, hK, hbel.trans (drewN_below _ _ _)⟩ ?_
  clear hV hA hAt hRt hK hbel
  rintro W ⟨hV, hA, hAt, hRt, hK, hbel⟩
  go_wp2
  go_loopw [6, 7, 8, 9, 10, 11, 12, 13, 37] (fun sa sb sc sd se sf sg sh i wr => ∃ k : Nat, k ≤ 64 ∧ i = .int .i64 k ∧ (∃ r : S8, Hid (r = rn (wl blk 64) s k) ∧ sa = .int .u32 r.a.toNat ∧ sb = .int .u32 r.b.toNat ∧ sc = .int .u32 r.c.toNat ∧ sd = .int .u32 r.d.toNat ∧ se = .int .u32 r.e.toNat ∧ sf = .int .u32 r.f.toNat ∧ sg = .int .u32 r.g.toNat ∧ sh = .int .u32 r.h.toNat) ∧
    wr.rangeAt g 0 vs ∧ wr.rangeAt w.heap.size 0 (W32 s.list) ∧ wr.there w.heap.size 0 8 ∧ wr.there (w.heap.size + 1) 0 8 ∧ wr.rangeAt 1 0 (W32 KS) ∧ Below w.heap.size w wr) (fun _ _ _ _ _ _ _ _ i _ => 64 - (intOf i).toNat)
  case atStart => exact ⟨0, by omega, rfl, ⟨s, rfl, rfl, rfl, rfl, rfl, rfl, rfl, rfl, rfl⟩, hV, hA, hAt, hRt, hK, hbel⟩
  case round =>
    clear hV hA hAt hRt hK hbel
    obtain ⟨k, hk, rfl, ⟨r, hr, rfl, rfl, rfl, rfl, rfl, rfl, rfl, rfl⟩, hV, hA, hAt, hRt, hK, hbel⟩ := hrel
    by_cases hlt : k < 64
    · obtain ⟨xk, hxk⟩ : ∃ x, x = KS.getD k 0 := ⟨_, rfl⟩
      obtain ⟨xw, hxw⟩ : ∃ x, x = (wl blk 64).getD k 0 := ⟨_, rfl⟩
      have ck : wr.cell? ⟨1, k, none⟩ = some (.int .u32 (xk.toNat : Int)) := by
        have := hK k (.int .u32 (xk.toNat : Int)) (by rw [W32_get, hxk, List.getD_eq_getElem?_getD, List.getElem?_eq_getElem (by rw [KS_length]; exact hlt)]; rfl)
        rwa [Nat.zero_add] at this
      have cw : wr.cell? ⟨g, k, none⟩ = some (.int .u32 (xw.toNat : Int)) := by
        have := hV k (.int .u32 (xw.toNat : Int)) (by rw [hvs.out, W32_get, hxw, List.getD_eq_getElem?_getD, List.getElem?_eq_getElem (by rw [wl_length]; exact hlt)]; rfl)
        rwa [Nat.zero_add] at this
      have Hst : Hid (rstep r xk xw = rn (wl blk 64) s (k + 1)) := by
        show rstep r xk xw = _
        rw [rn, hr.out, hxk, hxw]
      clear hxk hxw
      have qk : (k : Int) < 64 := by omega
      go_wp2
      go_quiet ((go_at_call 62; exact Calls.quiet_of_same (turn_q _ _ (by decide) (by decide) _)))
      go_wp2_with (go_at_call 62; refine (turn_q _ _ (by decide) (by decide) _).mono ?_; rintro e w' ⟨rfl, rfl⟩)
      go_roundw
      case rel =>
        refine ⟨k + 1, by omega, by go_num, ⟨rstep r xk xw, Hst, ?_, rfl, rfl, rfl, ?_, rfl, rfl, rfl⟩, hV, hA, hAt, hRt, hK, hbel.trans (drewN_below _ _ _)⟩
        · exact intEq (by rw [bs1_walk, ch_walk, bs0_walk, maj_walk, sum5, add32, add32]; rfl)
        · exact intEq (by rw [bs1_walk, ch_walk, sum5, add32]; rfl)
      case measure => simp [intOf]; omega
    · obtain rfl : 64 = k := by omega
      go_wp2
      rw [show (((64 : Nat) : Int)) = 64 from rfl]
      go_loopw [109] (fun i wr => ∃ k : Nat, k ≤ 8 ∧ i = .int .i64 k ∧ wr.rangeAt w.heap.size 0 (W32 (addTo s.list r.list k)) ∧ wr.there w.heap.size 0 8 ∧ wr.there (w.heap.size + 1) 0 8 ∧ Below w.heap.size w wr) (fun i _ => 8 - (intOf i).toNat)
      case atStart => exact ⟨0, by omega, rfl, hA, hAt, hRt, hbel⟩
      case round =>
        clear hV hA hAt hRt hK hbel
        obtain ⟨k, hk, rfl, hA, hAt, hRt, hbel⟩ := hrel
        by_cases hlt : k < 8
        · obtain ⟨x, hx⟩ : ∃ x, s.list[k]? = some x := ⟨_, List.getElem?_eq_getElem (by rw [S8.list_length]; exact hlt)⟩
          obtain ⟨y, hy⟩ : ∃ y, r.list[k]? = some y := ⟨_, List.getElem?_eq_getElem (by rw [S8.list_length]; exact hlt)⟩
          obtain ⟨i0, hi0, _, hi1, _⟩ := info_parts info_u32
          have hix := fun w => run_index_arr (P := Tryd.prog) w 78 22 8 (W32 r.list).toArray i0 .u32 k (.int .u32 (y.toNat : Int)) Tryd.underlying78 hlt hi0 hi1 Tryd.underlying22 (by rw [List.getElem?_toArray, W32_get, hy]; rfl)
          rw [show (W32 r.list).toArray = #[.int .u32 (r.a.toNat : Int), .int .u32 (r.b.toNat : Int), .int .u32 (r.c.toNat : Int), .int .u32 (r.d.toNat : Int), .int .u32 (r.e.toNat : Int), .int .u32 (r.f.toNat : Int), .int .u32 (r.g.toNat : Int), .int .u32 (r.h.toNat : Int)] from rfl] at hix
          have ck : wr.cell? ⟨w.heap.size, k, none⟩ = some (.int .u32 (x.toNat : Int)) := by
            have := hA k (.int .u32 (x.toNat : Int)) (by rw [W32_get, addTo_get _ _ _ _ (Nat.le_refl _), hx]; rfl)
            rwa [Nat.zero_add] at this
          have hfk := (hAt k hlt).2
          rw [Nat.zero_add] at hfk
          have Hset : Hid (addTo s.list r.list (k + 1) = (addTo s.list r.list k).set k (x + y)) := by
            show addTo s.list r.list (k + 1) = _
            rw [addTo, List.getD_eq_getElem?_getD, List.getD_eq_getElem?_getD, hx, hy]; rfl
          have qk : (k : Int) < 8 := by omega
          clear hx hy hi0 hi1
          go_wp2
          go_roundw
          case rel =>
            refine ⟨k + 1, by omega, by go_num, ?_, there_set hAt _ _, there_set hRt _ _, hbel.setCell (Nat.le_refl _) _⟩
            have hset := range_set hA (by rw [W32_length, addTo_length]; exact hAt) k (by rw [W32_length, addTo_length]; exact hlt) (.int .u32 ((x + y).toNat : Int))
            rw [Nat.zero_add] at hset
            rw [Hset.out, W32_set, add32]
            exact hset
          case measure => simp [intOf]; omega
        · obtain rfl : 8 = k := by omega
          rw [add8] at hA
          have hm : [s.a + r.a, s.b + r.b, s.c + r.c, s.d + r.d, s.e + r.e, s.f + r.f, s.g + r.g, s.h + r.h] = (mixed s blk).list := by rw [hr.out]; rfl
          rw [hm] at hA
          clear hm
          go_wp2_with (first
            | (refine wpList_load_mid rfl 78 (.tmp 2) rfl w.heap.size 0 rfl (W32 (mixed s blk).list) _ hA Tryd.underlying78 rfl (by rw [size8, W32_length, S8.list_length]) ?_)
            | (refine wpList_store_mid rfl 78 (.tmp 4) (.tmp 120) rfl (w.heap.size + 1) 0 (W32 (mixed s blk).list).toArray rfl rfl (by simpa [W32_length, S8.list_length] using hRt) (by rw [size8]; simp [W32_length, S8.list_length]) (all_oneCell_toArray (W32_one _)) ?_))
          refine bodyPost_ret (results_cell_mid Tryd.results57 _ _ (w.heap.size + 1) 0 (W32 (mixed s blk).list) _ rfl ?_ Tryd.underlying78 rfl (by rw [size8, W32_length, S8.list_length])) rfl ?_
          · exact World.rangeAt_setCells_same _ _ _ _ (by simpa [W32_length, S8.list_length] using hRt)
          · exact ⟨rfl, below_setCells hbel (by omega) _ 0⟩
end Go.Proofs.YtiieianbmldnbaaDoor
