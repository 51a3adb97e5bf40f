/-
  The head of bytes.
-/
import Derived.Test.YtiieianbmldnbaaDoorImgWrite
import Derived.Test.YtiieianbmldnbaaDoorImgBytes
import Derived.Deep.MidRow
import Derived.Test.YtiieianbmldnbaaDoorRelDone
namespace Go.Proofs.YtiieianbmldnbaaDoor
open Go.RowKit
set_option maxRecDepth 100000
set_option maxRecDepth 100000
/-- A head as data: version, size, name, digest. -/
structure Hd where
  v : Int
  sz : Int
  nm : List UInt8
  d : List UInt8
def hd0 : Hd := ⟨0, 0, [], List.replicate 32 0⟩
/-- What stands in bytes. -/
def partsOf (t : List UInt8) : Hd := ⟨(g32 (t.drop 4)).1, (g32 (t.drop 8)).1, ((t.drop 12).take (tz ((t.drop 12).take 16) 16)), (t.drop 28).take 32⟩
/-- The error's number of Read. -/
def readErr (l : List UInt8) : Nat :=
  if l.length < 64 then 20 else if l.take 4 ≠ MAGIC then 50 else match opens (l.take 64) with
    | none => 51
    | some t => if rightH (partsOf t).sz ⟨(partsOf t).nm.toArray⟩ then 0 else 20
/-- The head that Read tells. -/
def readOf (l : List UInt8) : Hd := if readErr l = 0 then partsOf ((opens (l.take 64)).getD []) else hd0
def Hd.val (h : Hd) : Value := .agg (Hv h.v h.sz ⟨h.nm.toArray⟩ h.d).toArray
theorem hd0_val : hd0.val = .agg (Hv 0 0 ⟨#[]⟩ (List.replicate 32 0)).toArray := rfl
def Z35 : List Value := Hv 0 0 ⟨#[]⟩ (List.replicate 32 0)
theorem z35_there (w : World) (t : TypeId) : (w.alloc (.cells Z35.toArray t)).there w.heap.size 0 35 := there_new w _ t rfl
theorem z35_size : Z35.toArray.size = 35 := rfl
theorem z35_one : Z35.toArray.all (·.oneCell') = true := by kernel_rfl
theorem wpList_build_is {P : Program} {ops : Array Oper} {rest : List Oper} {o : Oper} {a : Act} {w : World} {Q : Exit → Act → World → Prop} (hg : o.guard = none) (t : TypeId) (parts : Array (Nat × Operand)) (ho : o.op = .build t parts) (cells : Array Value)
    (hb : P.built t (parts.map fun (i, x) => (i, a.eval x)).toList = some cells) (h : wpList P ops Q rest (a.put o.dst (.agg cells)) w) : wpList P ops Q (o :: rest) a w :=
  wpList_build hg t parts ho (by rw [hb]; rfl) (by rw [hb]; exact h)
theorem wp_build_is {P : Program} {o : Oper} {a : Act} {w : World} {K : Act → World → Prop} {Q : Exit → Act → World → Prop} (t : TypeId) (parts : Array (Nat × Operand)) (ho : o.op = .build t parts) (cells : Array Value)
    (hb : P.built t (parts.map fun (i, x) => (i, a.eval x)).toList = some cells) (h : K (a.put o.dst (.agg cells)) w) : o.wp P a w K Q :=
  wp_build t parts ho (by rw [hb]; rfl) (by rw [hb]; exact h)
theorem results_cell_tmp_mid {P : Program} {fn : Func} {p u : Tmp} {ty : TypeId} (h : fn.results = #[.cell p ty, .tmp u]) (tmps : Array Value) (w : World) (b o : Nat) (cs : List Value) (d : TypeDesc)
    (hp : tmps.getD p undef = .pointer (some ⟨b, o, none⟩)) (hc : w.rangeAt b o cs) (hu : P.underlying ty = some d) (hd : d.isRow = true) (hi : (P.info? ty).map (·.size) = some cs.length) :
    (results fn tmps).run P w = .ok (.tuple #[.agg cs.toArray, tmps.getD u undef]) w := by
  rw [results_cell_tmp h, hp]
  simp only [asAddr, Sem.run_pure, Result.andThen_ok, run_loadVar_mid w b o ty cs d hc hu hd hi]
/-- What a call that begins with its head's zero finds. -/
structure Zat (w W : World) : Prop where
  there : W.there w.heap.size 0 35
  bel : Below w.heap.size w W
  size : w.heap.size + 1 ≤ W.heap.size
theorem Zat.new_ (w : World) : Zat w (w.alloc (.cells Z35.toArray 25)) := ⟨z35_there w _, alloc_below w _, by rw [alloc_size]; exact Nat.le_refl _⟩
theorem Zat.step {w W W' : World} (h : Zat w W) (hb : Below W.heap.size W W') : Zat w W' := by
  have := h.size
  have := hb.size
  exact ⟨there_below h.there hb (by omega), h.bel.trans (hb.mono (by omega)), by omega⟩
theorem z35_stored {w W : World} {N : Nat} (ht : W.there N 0 35) (hb : Below N w W) : (W.setCells N 0 Z35).rangeAt N 0 Z35 ∧ Below N w (W.setCells N 0 Z35) :=
  ⟨World.rangeAt_setCells_same _ _ _ _ ht, below_setCells hb (Nat.le_refl _) _ _⟩
theorem kc_behind (w : World) (o : Obj) (C : Array Value) (n c : Nat) : (convert 26 26 (.slice (some ⟨w.heap.size + 1, 0, none⟩) n c)).run Tryd.prog ((w.alloc o).alloc (.cells C 5)) = .ok (.slice (some ⟨w.heap.size + 1, 0, none⟩) n c) ((w.alloc o).alloc (.cells C 5 (C.size, C.size + 1))) := by
  have := Lib.run_convert_bytes_const (P := Tryd.prog) (w.alloc o) 26 5 C n c Tryd.underlying26 Tryd.underlying5
  rw [alloc_size] at this
  exact this
/-- Fewer than 64 bytes. -/
theorem read_few (A : Option Addr) (n c : Nat) (w : World) (hn : (n : Int) < 64) :
    Calls Tryd.prog 12 #[.slice A n c] w fun e w' => e = .returned (.tuple #[hd0.val, .int .i64 20]) ∧ Below w.heap.size w w' := by
  go_enter Tryd.func12, Tryd.ntmps12
  go_wp2_with (first
    | refine wpList_build_is rfl 25 _ rfl Z35.toArray (by kernel_rfl) ?_
    | refine wpList_store_mid rfl 25 (.tmp 2) (.tmp 15) rfl w.heap.size 0 Z35.toArray rfl rfl (Zat.new_ w).there (by rw [size25h]; rfl) z35_one ?_)
  have hf := z35_stored (Zat.new_ w).there (Zat.new_ w).bel
  refine bodyPost_ret (results_cell_tmp_mid rfl _ _ w.heap.size 0 Z35 _ rfl hf.1 Tryd.underlying25 rfl (by rw [size25h]; rfl)) rfl ?_
  exact ⟨rfl, hf.2⟩
/-- .. without the sign. -/
theorem read_magic (A : Option Addr) (n c : Nat) (l : List UInt8) (w : World) (B : Nat) (hbs : Bs w B A n l) (hB : B ≤ w.heap.size) (hc : n ≤ c) (hn : 64 ≤ (n : Int)) (hm : l.take 4 ≠ MAGIC) :
    Calls Tryd.prog 12 #[.slice A n c] w fun e w' => e = .returned (.tuple #[hd0.val, .int .i64 50]) ∧ Below w.heap.size w w' := by
  have kc := kc_behind w
  have h64 : ¬ (n : Int) < 64 := by omega
  go_enter Tryd.func12, Tryd.ntmps12
  go_wp2_with fail
  refine calls_at_world (F := fun W => Zat w W ∧ Bs W W.heap.size (some ⟨w.heap.size + 1, 0, none⟩) 4 MAGIC) ⟨(Zat.new_ w).step (alloc_below _ _), ?_⟩ ?_
  · have := Bs.lit_ (w.alloc (.cells Z35.toArray 25)) 5 (U8 MAGIC).toArray (4, 5) MAGIC rfl
    rw [alloc_size] at this
    exact this.more (by rw [alloc_size, alloc_size]; exact Nat.le_refl _)
  rintro W ⟨hz, hl⟩
  refine (hasPrefix_any A (some ⟨w.heap.size + 1, 0, none⟩) n c 4 4 l MAGIC W B _ (hbs.below' hz.bel hB) hl hc).mono ?_
  rintro e w' ⟨rfl, hw⟩
  obtain rfl := hw.symm
  rw [decide_eq_false (fun hh => hm hh.2)]
  go_wp2_with (first
    | refine wpList_build_is rfl 25 _ rfl Z35.toArray (by kernel_rfl) ?_
    | refine wpList_store_mid rfl 25 (.tmp 2) (.tmp 21) rfl w.heap.size 0 Z35.toArray rfl rfl hz.there (by rw [size25h]; rfl) z35_one ?_)
  have hf := z35_stored hz.there hz.bel
  refine bodyPost_ret (results_cell_tmp_mid rfl _ _ w.heap.size 0 Z35 _ rfl hf.1 Tryd.underlying25 rfl (by rw [size25h]; rfl)) rfl ?_
  exact ⟨rfl, hf.2⟩
/-- .. with another sum. -/
theorem read_sum (A : Option Addr) (n c : Nat) (l : List UInt8) (w : World) (B : Nat) (hbs : Bs w B A n l) (hB : B ≤ w.heap.size) (hc : n ≤ c) (hn : 64 ≤ (n : Int)) (hm : l.take 4 = MAGIC) (ho : opens (l.take 64) = none) :
    Calls Tryd.prog 12 #[.slice A n c] w fun e w' => e = .returned (.tuple #[hd0.val, .int .i64 51]) ∧ Below w.heap.size w w' := by
  have kc := kc_behind w
  have h64 : ¬ (n : Int) < 64 := by omega
  have hc64 : 64 ≤ (c : Int) := by omega
  go_enter Tryd.func12, Tryd.ntmps12
  go_wp2_with fail
  refine calls_at_world (F := fun W => Zat w W ∧ Bs W W.heap.size (some ⟨w.heap.size + 1, 0, none⟩) 4 MAGIC) ⟨(Zat.new_ w).step (alloc_below _ _), ?_⟩ ?_
  · have := Bs.lit_ (w.alloc (.cells Z35.toArray 25)) 5 (U8 MAGIC).toArray (4, 5) MAGIC rfl
    rw [alloc_size] at this
    exact this.more (by rw [alloc_size, alloc_size]; exact Nat.le_refl _)
  rintro W ⟨hz, hl⟩
  have hbW := hbs.below' hz.bel hB
  refine (hasPrefix_any A (some ⟨w.heap.size + 1, 0, none⟩) n c 4 4 l MAGIC W B _ hbW hl hc).mono ?_
  rintro e w' ⟨rfl, hw⟩
  obtain rfl := hw.symm
  rw [decide_eq_true ⟨by omega, hm⟩]
  go_wp2_with fail
  refine (open_any A 64 c (l.take 64) _ B (hbW.take_ 64 (by omega)) (by have := hz.size; omega) (by omega) (by omega)).mono ?_
  rintro e w2 ⟨A2, n2, c2, rfl, hc2, hb2, hB2⟩
  rw [ho] at hb2 ⊢
  have hz2 := hz.step hB2
  go_wp2_with (first
    | refine wpList_build_is rfl 25 _ rfl Z35.toArray (by kernel_rfl) ?_
    | refine wpList_store_mid rfl 25 (.tmp 2) (.tmp 30) rfl w.heap.size 0 Z35.toArray rfl rfl hz2.there (by rw [size25h]; rfl) z35_one ?_)
  have hf := z35_stored hz2.there hz2.bel
  refine bodyPost_ret (results_cell_tmp_mid rfl _ _ w.heap.size 0 Z35 _ rfl hf.1 Tryd.underlying25 rfl (by rw [size25h]; rfl)) rfl ?_
  exact ⟨rfl, hf.2⟩
/-- The world while a head is put together in a new variable. -/
structure HS (N : Nat) (w3 : World) (v sz : Int) (nm : ByteArray) (d : List UInt8) (L : Nat → Bool) (w : World) : Prop where
  bel : Below N w3 w
  ahead : L 10 = false → w.heap.size = N
  behind : L 10 = true → w.there N 0 35 ∧ w.heap.size = N + 1
  done : L 11 = true → HdAt w N v sz nm d
theorem HS.upd {N : Nat} {w3 : World} {v sz : Int} {nm : ByteArray} {d : List UInt8} {L : Nat → Bool} {w : World} (h : HS N w3 v sz nm d L w) (i : Nat) (hi : i < 10) : HS N w3 v sz nm d (upd L i) w := by
  have e1 : Proofs.YtiieianbmldnbaaDoor.upd L i 10 = L 10 := by unfold Proofs.YtiieianbmldnbaaDoor.upd; rw [if_neg (by omega)]
  have e2 : Proofs.YtiieianbmldnbaaDoor.upd L i 11 = L 11 := by unfold Proofs.YtiieianbmldnbaaDoor.upd; rw [if_neg (by omega)]
  exact ⟨h.bel, by rw [e1]; exact h.ahead, by rw [e1]; exact h.behind, by rw [e2]; exact h.done⟩
theorem HS.alloc {N : Nat} {w3 : World} {v sz : Int} {nm : ByteArray} {d : List UInt8} {L : Nat → Bool} {w : World} (h : HS N w3 v sz nm d L w) (hL : L 10 = false) (t : TypeId) : HS N w3 v sz nm d (Proofs.YtiieianbmldnbaaDoor.upd L 10) (w.alloc (.cells Z35.toArray t)) := by
  have hn := h.ahead hL
  refine ⟨h.bel.alloc (by omega) _, fun e => ?_, fun _ => ⟨?_, by rw [alloc_size, hn]⟩, fun e => ?_⟩
  · unfold Proofs.YtiieianbmldnbaaDoor.upd at e; rw [if_pos rfl] at e; cases e
  · have := z35_there w t
    rwa [hn] at this
  · have e2 : Proofs.YtiieianbmldnbaaDoor.upd L 10 11 = L 11 := by unfold Proofs.YtiieianbmldnbaaDoor.upd; rw [if_neg (by omega)]
    rw [e2] at e
    have := (h.done e).lt
    omega
theorem HS.store {N : Nat} {w3 : World} {v sz : Int} {nm : ByteArray} {d : List UInt8} {L : Nat → Bool} {w : World} (h : HS N w3 v sz nm d L w) (ht : w.there N 0 35) (hs : w.heap.size = N + 1) (hd : d.length = 32) : HS N w3 v sz nm d (Proofs.YtiieianbmldnbaaDoor.upd L 11) (w.setCells N 0 (Hv v sz nm d)) := by
  have hl := Hv_length (v := v) (sz := sz) (nm := nm) hd
  refine ⟨below_setCells h.bel (Nat.le_refl _) _ _, fun e => ?_, fun _ => ⟨World.there_setCells ht _ _ _, by rw [size_setCells_]; exact hs⟩, fun _ => ⟨hd, World.rangeAt_setCells_same _ _ _ _ (by rw [hl]; exact ht), World.there_setCells ht _ _ _⟩⟩
  have e1 : Proofs.YtiieianbmldnbaaDoor.upd L 11 10 = L 10 := by unfold Proofs.YtiieianbmldnbaaDoor.upd; rw [if_neg (by omega)]
  rw [e1] at e
  have := h.ahead e
  omega
/-- What each operation leaves. -/
def HR (N b off k c2 : Nat) (v sz : Int) (nm : ByteArray) (d : List UInt8) (i : Nat) (_w : World) (x : Value) : Prop :=
  match i with
  | 0 => x = .int .u32 v
  | 1 => x = .int .u32 sz
  | 2 => x = .int .i64 sz
  | 3 => x = .slice (some ⟨b, off + 12, none⟩) k (c2 - 12)
  | 4 => x = .string nm
  | 5 => x = .slice (some ⟨b, off, none⟩) 60 c2
  | 6 => x = .slice (some ⟨b, off + 28, none⟩) 32 (c2 - 28)
  | 7 => x = .pointer (some ⟨b, off + 28, none⟩)
  | 8 => x = .agg (U8 d).toArray
  | 9 => x = .agg (Hv v sz nm d).toArray
  | 10 => x = .pointer (some ⟨N, 0, none⟩)
  | _ => True
theorem built_hd (v sz : Int) (nm : ByteArray) (d : List UInt8) (hd : d.length = 32) : Tryd.prog.built 25 [(0, .int .u32 v), (1, .int .i64 sz), (2, .string nm), (3, .agg (U8 d).toArray)] = some (Hv v sz nm d).toArray := by
  match d, hd with
  | [a0, a1, a2, a3, a4, a5, a6, a7, b0, b1, b2, b3, b4, b5, b6, b7, c0, c1, c2, c3, c4, c5, c6, c7, d0, d1, d2, d3, d4, d5, d6, d7], _ =>
    show _ = _
    kernel_rfl
theorem g32_lt (l : List UInt8) : 0 ≤ (g32 l).1 ∧ (g32 l).1 < 4294967296 := by
  match l with
  | [] => exact ⟨Int.le_refl 0, by show (0 : Int) < 4294967296; decide⟩
  | [_] => exact ⟨Int.le_refl 0, by show (0 : Int) < 4294967296; decide⟩
  | [_, _] => exact ⟨Int.le_refl 0, by show (0 : Int) < 4294967296; decide⟩
  | [_, _, _] => exact ⟨Int.le_refl 0, by show (0 : Int) < 4294967296; decide⟩
  | a :: b :: c :: d :: _ =>
    have := byte_lt a
    have := byte_lt b
    have := byte_lt c
    have := byte_lt d
    show 0 ≤ (a.toNat : Int) + b.toNat * 256 + c.toNat * 65536 + d.toNat * 16777216 ∧ (a.toNat : Int) + b.toNat * 256 + c.toNat * 65536 + d.toNat * 16777216 < 4294967296
    omega
theorem opens_some {l t : List UInt8} (h : opens l = some t) : t = l.take (l.length - 4) ∧ 4 ≤ l.length := by
  unfold opens at h
  split at h
  · cases h
  · split at h
    · injection h with h
      exact ⟨h.symm, by omega⟩
    · cases h
set_option maxHeartbeats 1600000 in
theorem read_rest (A : Option Addr) (n c : Nat) (l t : List UInt8) (w : World) (B : Nat) (hbs : Bs w B A n l) (hB : B ≤ w.heap.size) (hc : n ≤ c) (hn : 64 ≤ (n : Int)) (hm : l.take 4 = MAGIC) (ho : opens (l.take 64) = some t) :
    Calls Tryd.prog 12 #[.slice A n c] w fun e w' => e = .returned (.tuple #[(readOf l).val, .int .i64 (readErr l : Int)]) ∧ Below w.heap.size w w' := by
  have kc := kc_behind w
  have h64 : ¬ (n : Int) < 64 := by omega
  have hc64 : 64 ≤ (c : Int) := by omega
  have hl60 : t.length = 60 := by
    obtain ⟨h1, _⟩ := opens_some ho
    rw [h1]
    have := hbs.len
    simp only [List.length_take]; omega
  go_enter Tryd.func12, Tryd.ntmps12
  go_wp2_with fail
  refine calls_at_world (F := fun W => Zat w W ∧ Bs W W.heap.size (some ⟨w.heap.size + 1, 0, none⟩) 4 MAGIC) ⟨(Zat.new_ w).step (alloc_below _ _), ?_⟩ ?_
  · have := Bs.lit_ (w.alloc (.cells Z35.toArray 25)) 5 (U8 MAGIC).toArray (4, 5) MAGIC rfl
    rw [alloc_size] at this
    exact this.more (by rw [alloc_size, alloc_size]; exact Nat.le_refl _)
  rintro W ⟨hz, hl⟩
  have hbW := hbs.below' hz.bel hB
  refine (hasPrefix_any A (some ⟨w.heap.size + 1, 0, none⟩) n c 4 4 l MAGIC W B _ hbW hl hc).mono ?_
  rintro e w' ⟨rfl, hw⟩
  obtain rfl := hw.symm
  rw [decide_eq_true ⟨by omega, hm⟩]
  go_wp2_with fail
  refine (open_any A 64 c (l.take 64) _ B (hbW.take_ 64 (by omega)) (by have := hz.size; omega) (by omega) (by omega)).mono ?_
  rintro e w2 ⟨A2, n2, c2, rfl, hc2, hb2, hB2⟩
  rw [ho] at hb2 ⊢
  have hz2 := hz.step hB2
  replace hb2 : Bs w2 w2.heap.size A2 n2 t := hb2
  have hn2 : n2 = 60 := by have := hb2.len; omega
  subst hn2
  obtain ⟨b, off, rfl, hbl, _⟩ := hb2.place (by omega)
  have Hl := Lib.hid hl60
  have Ho := Lib.hid ho
  have hci : 60 ≤ (c2 : Int) := by omega
  clear hbW hl hB2 hz kc hl60 ho
  go_wp2_with fail
  refine (get32_any _ _ _ (t.drop 4) w2 _ (hb2.drop_ 4)).mono ?_
  rintro e w3 ⟨rfl, m3, rfl⟩
  go_wp2_with fail
  refine (get32_any _ _ _ (t.drop 8) _ _ ((hb2.drop_ 8).drewN m3)).mono ?_
  rintro e w3 ⟨rfl, m4, rfl⟩
  have Hres : Hid (readErr l = (if rightH (partsOf t).sz ⟨(partsOf t).nm.toArray⟩ then 0 else 20) ∧ readOf l = (if rightH (partsOf t).sz ⟨(partsOf t).nm.toArray⟩ then partsOf t else hd0)) := by
    have he : readErr l = (if rightH (partsOf t).sz ⟨(partsOf t).nm.toArray⟩ then 0 else 20) := by
      unfold readErr
      rw [if_neg (by have := hbs.len; omega), if_neg (by simpa using hm), Ho.out]
    refine ⟨he, ?_⟩
    unfold readOf
    rw [he, Ho.out]
    cases rightH (partsOf t).sz ⟨(partsOf t).nm.toArray⟩ <;> rfl
  have Hpv : Hid ((partsOf t).v = (g32 (t.drop 4)).1 ∧ (partsOf t).sz = (g32 (t.drop 8)).1 ∧ (partsOf t).nm = (t.drop 12).take (tz ((t.drop 12).take 16) 16) ∧ (partsOf t).d = (t.drop 28).take 32) := ⟨rfl, rfl, rfl, rfl⟩
  generalize partsOf t = P at *
  obtain ⟨v0, v1⟩ := g32_lt (t.drop 4)
  obtain ⟨s0, s1⟩ := g32_lt (t.drop 8)
  generalize (g32 (t.drop 4)).1 = v at *
  generalize (g32 (t.drop 8)).1 = sz at *
  generalize (g32 (t.drop 4)).2 = vb at *
  generalize (g32 (t.drop 8)).2 = sb at *
  go_wp2_with fail
  have hb3 := hb2.drewN (m3 + m4)
  have hz3 : Zat w (w2.drewN (m3 + m4)) := hz2.step (drewN_below w2 _ _)
  have hb4 := (hb3.drop_ 12).take_ 16 (by omega)
  have hb5 := (hb3.drop_ 28).take_ 32 (by omega)
  have hsz3 : (w2.drewN (m3 + m4)).heap.size = w2.heap.size := rfl
  generalize w2.drewN (m3 + m4) = w3 at *
  refine (trimRight_any b (off + 12) 16 (c2 - 12) ((t.drop 12).take 16) w3 _ hb4 (by omega) (by omega) (by omega)).mono ?_
  rintro e w' ⟨rfl, hw⟩
  obtain rfl := hw.symm
  have hk := tz_le ((t.drop 12).take 16) 16
  have hb6 := hb4.take_ (tz ((t.drop 12).take 16) 16) hk
  rw [List.take_take, Nat.min_eq_left hk, ← Hpv.out.2.2.1] at hb6
  rw [← Hpv.out.2.2.2] at hb5
  rw [← Hpv.out.1, ← Hpv.out.2.1]
  rw [← Hpv.out.1] at v0 v1
  rw [← Hpv.out.2.1] at s0 s1
  generalize tz ((t.drop 12).take 16) 16 = k at *
  obtain ⟨v, sz, nm, d⟩ := P
  simp only at *
  have hstr : ∀ W, Below w3.heap.size w3 W → (convert 26 9 (.slice (some ⟨b, off + 12, none⟩) k (c2 - 12))).run Tryd.prog W = .ok (.string ⟨nm.toArray⟩) W := fun W hW => run_string_bs (P := Tryd.prog) (hb6.below' hW (by omega)) 26 9 5 _ Tryd.underlying26 Tryd.underlying5 Tryd.underlying9
  have hdig : ∀ W, Below w3.heap.size w3 W → W.rangeAt b (off + 28) (U8 d) := fun W hW => by
    obtain ⟨b', o', e, _, hc⟩ := (hb5.below' hW (by omega)).place (by omega)
    injection e with e
    injection e with e1 e2 _
    subst e1 e2
    intro j x hj
    rw [U8_get] at hj
    obtain ⟨u, hu, rfl⟩ := Option.map_eq_some_iff.1 hj
    exact hc j u hu
  have hd32 := hb5.len
  clear Hpv hb2 hb3 hb4
  go_wp2_with fail
  clear hsz3
  refine wp_region_relL (HS w3.heap.size w3 v sz ⟨nm.toArray⟩ d) (fun _ _ => True) (HR w3.heap.size b off k c2 v sz ⟨nm.toArray⟩ d) [(6, .int .u32 v), (8, .int .u32 sz), (10, .slice (some ⟨b, off + 12, none⟩) k (c2 - 12)), (4, .slice (some ⟨b, off, none⟩) 60 c2)] (by kernel_rfl) (by kernel_rfl) (by kernel_rfl) ?base ⟨drew_below w3 _, fun _ => rfl, fun e => (by cases e), fun e => (by cases e)⟩ (fun _ _ _ _ _ h => h) ?steps ?fin
  case base =>
    intro p hp
    simp only [List.mem_cons, List.not_mem_nil, or_false] at hp
    rcases hp with rfl | rfl | rfl | rfl <;> exact ⟨rfl, rfl⟩
  case steps =>
    refine steps_cons ?_ (steps_cons ?_ (steps_cons ?_ (steps_cons ?_ (steps_cons ?_ (steps_cons ?_ (steps_cons ?_ (steps_cons ?_ (steps_cons ?_ (steps_cons ?_ (steps_cons ?_ (steps_cons ?_ steps_nil)))))))))))
    · intro a w0 L K hL hD hS hB hR hK
      rw [if_pos (wanted_none rfl)]
      have h0 := tmp_is (hB.1)
      go_simp
      exact hK (.int .u32 v) w0 (hS.upd 0 (by omega)) trivial rfl
    · intro a w0 L K hL hD hS hB hR hK
      rw [if_pos (wanted_none rfl)]
      have h0 := tmp_is (hB.2.1)
      go_simp
      exact hK (.int .u32 sz) w0 (hS.upd 1 (by omega)) trivial rfl
    · intro a w0 L K hL hD hS hB hR hK
      rw [if_pos (wanted_none rfl)]
      have h0 := tmp_is (hR.1)
      have hw64 : IntKind.i64.wrap sz = sz := IntWalk.i64_in _ (by omega)
      go_simp
      exact hK (.int .i64 sz) w0 (hS.upd 2 (by omega)) trivial rfl
    · intro a w0 L K hL hD hS hB hR hK
      rw [if_pos (wanted_none rfl)]
      have h0 := tmp_is (hB.2.2.1)
      go_simp
      exact hK (.slice (some ⟨b, off + 12, none⟩) k (c2 - 12)) w0 (hS.upd 3 (by omega)) trivial rfl
    · intro a w0 L K hL hD hS hB hR hK
      rw [if_pos (wanted_none rfl)]
      have h0 := tmp_is (hR.1)
      have hs := hstr w0 hS.bel
      go_simp
      exact hK (.string ⟨nm.toArray⟩) w0 (hS.upd 4 (by omega)) trivial rfl
    · intro a w0 L K hL hD hS hB hR hK
      rw [if_pos (wanted_none rfl)]
      have h0 := tmp_is (hB.2.2.2.1)
      go_simp
      exact hK (.slice (some ⟨b, off, none⟩) 60 c2) w0 (hS.upd 5 (by omega)) trivial rfl
    · intro a w0 L K hL hD hS hB hR hK
      rw [if_pos (wanted_none rfl)]
      have h0 := tmp_is (hR.1)
      have hne : ¬ c2 = 28 := by omega
      go_simp
      exact hK (.slice (some ⟨b, off + 28, none⟩) 32 (c2 - 28)) w0 (hS.upd 6 (by omega)) trivial rfl
    · intro a w0 L K hL hD hS hB hR hK
      rw [if_pos (wanted_none rfl)]
      have h0 := tmp_is (hR.1)
      go_simp
      exact hK (.pointer (some ⟨b, off + 28, none⟩)) w0 (hS.upd 7 (by omega)) trivial rfl
    · intro a w0 L K hL hD hS hB hR hK
      rw [if_pos (wanted_none rfl)]
      refine wp_load_mid _ _ rfl _ _ hR.1 (U8 d) _ (hdig w0 hS.bel) Tryd.underlying23 rfl (by rw [size25, U8_length, hd32]) ?_
      exact hK (.agg (U8 d).toArray) w0 (hS.upd 8 (by omega)) trivial rfl
    · intro a w0 L K hL hD hS hB hR hK
      rw [if_pos (wanted_none rfl)]
      have hb := built_hd v sz ⟨nm.toArray⟩ d hd32
      have h0 := hR.1
      have h1 := hR.2.1
      have h2 := hR.2.2.1
      have h3 := hR.2.2.2.1
      refine wp_build_is 25 _ rfl (Hv v sz ⟨nm.toArray⟩ d).toArray ?_ ?_
      · simp only [List.map_toArray, List.map_cons, List.map_nil]
        rw [show a.eval (.tmp 46) = .int .u32 v from h0, show a.eval (.tmp 48) = .int .i64 sz from h1, show a.eval (.tmp 50) = .string ⟨nm.toArray⟩ from h2, show a.eval (.tmp 54) = .agg (U8 d).toArray from h3]
        exact hb
      · exact hK (.agg (Hv v sz ⟨nm.toArray⟩ d).toArray) w0 (hS.upd 9 (by omega)) trivial rfl
    · intro a w0 L K hL hD hS hB hR hK
      rw [if_pos (wanted_none rfl)]
      go_simp
      rw [hS.ahead hL]
      exact hK (.pointer (some ⟨w3.heap.size, 0, none⟩)) (w0.alloc (.cells Z35.toArray 25)) (hS.alloc hL 25) trivial rfl
    · intro a w0 L K hL hD hS hB hR hK
      rw [if_pos (wanted_none rfl)]
      have hb := hS.behind (hD 10 (by decide))
      refine wp_store_mid _ _ _ rfl w3.heap.size 0 (Hv v sz ⟨nm.toArray⟩ d).toArray hR.1 hR.2.1 (by rw [Hv_size hd32]; exact hb.1) (by rw [size25h, Hv_size hd32]) (all_oneCell_toArray (Hv_one _ _ _ _)) ?_
      exact hK undef _ (hS.store hb.1 hb.2 hd32) trivial trivial
  case fin =>
    intro a w' L HS0 hall ha hR
    have h10 : a.eval (.tmp 11) = .pointer (some ⟨w3.heap.size, 0, none⟩) := deps_mem _ hR 10 (by decide)
    have hH := HS0.done (hall 11 (by decide))
    have hB4 := HS0.bel
    clear hR HS0 hall
    simp only [pin] at ha
    rw [ha]
    simp only [List.setIfInBounds_toArray, List.set_cons_zero, List.set_cons_succ, h10]
    clear ha h10
    have hzw : Zat w w' := hz3.step hB4
    have hHz := hH
    go_wp2_with (refine wpList_load_mid rfl 25 (.tmp 11) rfl w3.heap.size 0 rfl (Hv v sz ⟨nm.toArray⟩ d) _ hH.range Tryd.underlying25 rfl (by rw [size25h, Hv_length hd32]) ?_)
    refine (right_any w' v sz ⟨nm.toArray⟩ d hd32).mono ?_
    rintro e w4 ⟨rfl, hb4⟩
    have hz4 := hzw.step hb4
    have hH4 := hH.below hb4 hH.lt
    clear hH hHz hb4 hzw hB4
    cases hr : rightH sz ⟨nm.toArray⟩ with
    | false =>
      obtain ⟨h1, h2⟩ := Hres.out
      rw [hr, if_neg (by decide)] at h1 h2
      have H1 := Lib.hid h1
      have H2 := Lib.hid h2
      clear h1 h2 Hres
      go_wp2_with (first
        | refine wpList_build_is rfl 25 _ rfl Z35.toArray (by kernel_rfl) ?_
        | refine wpList_store_mid rfl 25 (.tmp 2) (.tmp 59) rfl w.heap.size 0 Z35.toArray rfl rfl hz4.there (by rw [size25h]; rfl) z35_one ?_)
      have hf := z35_stored hz4.there hz4.bel
      refine bodyPost_ret (results_cell_tmp_mid rfl _ _ w.heap.size 0 Z35 _ rfl hf.1 Tryd.underlying25 rfl (by rw [size25h]; rfl)) rfl ?_
      exact ⟨by rw [H1.out, H2.out]; rfl, hf.2⟩
    | true =>
      obtain ⟨h1, h2⟩ := Hres.out
      rw [hr, if_pos rfl] at h1 h2
      have H1 := Lib.hid h1
      have H2 := Lib.hid h2
      clear h1 h2 Hres
      have hvs := Hv_size (v := v) (sz := sz) (nm := ⟨nm.toArray⟩) hd32
      go_wp2_with (first
        | refine wpList_load_mid rfl 25 (.tmp 11) rfl w3.heap.size 0 rfl (Hv v sz ⟨nm.toArray⟩ d) _ hH4.range Tryd.underlying25 rfl (by rw [size25h, Hv_length hd32]) ?_
        | refine wpList_store_mid rfl 25 (.tmp 2) (.tmp 60) rfl w.heap.size 0 (Hv v sz ⟨nm.toArray⟩ d).toArray rfl rfl (by rw [hvs]; exact hz4.there) (by rw [size25h, hvs]) (all_oneCell_toArray (Hv_one _ _ _ _)) ?_)
      refine bodyPost_ret (results_cell_tmp_mid rfl _ _ w.heap.size 0 (Hv v sz ⟨nm.toArray⟩ d) _ rfl (World.rangeAt_setCells_same _ _ _ _ (by rw [Hv_length hd32]; exact hz4.there)) Tryd.underlying25 rfl (by rw [size25h, Hv_length hd32])) rfl ?_
      exact ⟨by rw [H1.out, H2.out]; rfl, below_setCells hz4.bel (Nat.le_refl _) _ _⟩
/-- Whatever bytes. -/
theorem read_any (A : Option Addr) (n c : Nat) (l : List UInt8) (w : World) (B : Nat) (hbs : Bs w B A n l) (hB : B ≤ w.heap.size) (hc : n ≤ c) :
    Calls Tryd.prog 12 #[.slice A n c] w fun e w' => e = .returned (.tuple #[(readOf l).val, .int .i64 (readErr l : Int)]) ∧ Below w.heap.size w w' := by
  have hl := hbs.len
  by_cases h64 : (n : Int) < 64
  · have he : readErr l = 20 := by unfold readErr; rw [if_pos (by omega)]
    have hr : readOf l = hd0 := by unfold readOf; rw [he]; rfl
    rw [he, hr]; exact read_few A n c w h64
  · by_cases hm : l.take 4 = MAGIC
    · cases ho : opens (l.take 64) with
      | none =>
        have he : readErr l = 51 := by unfold readErr; rw [if_neg (by omega), if_neg (by simpa using hm), ho]
        have hr : readOf l = hd0 := by unfold readOf; rw [he]; rfl
        rw [he, hr]; exact read_sum A n c l w B hbs hB hc (by omega) hm ho
      | some t => exact read_rest A n c l t w B hbs hB hc (by omega) hm ho
    · have he : readErr l = 50 := by unfold readErr; rw [if_neg (by omega), if_pos hm]
      have hr : readOf l = hd0 := by unfold readOf; rw [he]; rfl
      rw [he, hr]; exact read_magic A n c l w B hbs hB hc (by omega) hm
end Go.Proofs.YtiieianbmldnbaaDoor