/-
  Plain laws on slices of bytes that several walks share: no program is named here.
-/
import Derived.WalkKit
import Derived.WalkSpells
import Derived.WalkLawsBesides
import Derived.Lib.Hide
import Derived.BigQuiet
import Derived.Deep.QuietTactic
import Derived.Deep.Draws
import Derived.Deep.AppendLies
import Derived.Laws.BytesArg
import Derived.Lib.SlBytesConst
namespace Go.Proofs.Ytmaeofhgbelciaa
open Go.RowKit
set_option maxRecDepth 100000

/-- Bytes as values. -/
def U8 (l : List UInt8) : List Value := l.map fun u => Value.int .u8 (u.toNat : Int)
theorem U8_nil : U8 [] = [] := rfl
theorem U8_append (a b : List UInt8) : U8 (a ++ b) = U8 a ++ U8 b := List.map_append
theorem U8_length (l : List UInt8) : (U8 l).length = l.length := List.length_map _
theorem U8_get (l : List UInt8) (k : Nat) : (U8 l)[k]? = (l[k]?).map fun u => Value.int .u8 (u.toNat : Int) := by simp [U8]
theorem U8_one (l : List UInt8) : ∀ u ∈ U8 l, u.oneCell' = true := by
  intro u hu
  obtain ⟨x, _, rfl⟩ := List.mem_map.1 hu
  rfl
theorem byte_lt (u : UInt8) : (u.toNat : Int) < 256 := by have := u.toNat_lt; omega
theorem byte_get {l : List UInt8} {k : Nat} (h : k < l.length) : ∃ u, l[k]? = some u := ⟨_, List.getElem?_eq_getElem h⟩

/-- A slice value with the address A and the length n reads as the bytes l, all of it below block B. -/
structure Bs (w : World) (B : Nat) (A : Option Addr) (n : Nat) (l : List UInt8) : Prop where
  len : l.length = n
  place : 0 < n → ∃ b off, A = some ⟨b, off, none⟩ ∧ b < B ∧ ∀ k u, l[k]? = some u → w.cell? ⟨b, off + k, none⟩ = some (.int .u8 (u.toNat : Int))

section
variable {w w' : World} {B B' n : Nat} {A : Option Addr} {l : List UInt8}
theorem Bs.empty (w : World) (B : Nat) (A : Option Addr) : Bs w B A 0 [] := ⟨rfl, fun h => absurd h (by omega)⟩
theorem Bs.keep (h : Bs w B A n l) (hk : ∀ p : Addr, p.block < B → w'.cell? p = w.cell? p) : Bs w' B A n l :=
  ⟨h.len, fun hn => by
    obtain ⟨b, off, e, hb, hc⟩ := h.place hn
    exact ⟨b, off, e, hb, fun k u hu => (hk _ hb).trans (hc k u hu)⟩⟩
theorem Bs.more (h : Bs w B A n l) (hB : B ≤ B') : Bs w B' A n l :=
  ⟨h.len, fun hn => by
    obtain ⟨b, off, e, hb, hc⟩ := h.place hn
    exact ⟨b, off, e, by omega, hc⟩⟩
theorem Bs.below (h : Bs w B A n l) (hb : Below B w w') : Bs w' B A n l := h.keep fun _ hp => hb.cell hp
theorem Bs.below' (h : Bs w B A n l) (hb : Below B' w w') (hB : B ≤ B') : Bs w' B A n l := h.keep fun _ hp => hb.cell (by omega)
theorem Bs.drew (h : Bs w B A n l) : Bs w.drew B A n l := h.keep fun _ _ => rfl
theorem Bs.drewN (h : Bs w B A n l) (k : Nat) : Bs (w.drewN k) B A n l := h.keep fun _ _ => rfl
theorem Bs.alloc (h : Bs w B A n l) (hB : B ≤ w.heap.size) (o : Obj) : Bs (w.alloc o) B A n l := h.keep fun p hp => World.cell?_alloc_lt w o p (by omega)
theorem Bs.setCell (h : Bs w B A n l) {p : Addr} (hB : B ≤ p.block) (u : Value) : Bs (w.setCell p u) B A n l :=
  h.keep fun q hq => World.cell?_setCell_other w p q u (fun e => by subst e; omega)
theorem Bs.grown (h : Bs w B A n l) {row : Option Nat} (hg : w.grownBy w' row) (hB : B ≤ w.heap.size) (hr : ∀ g, row = some g → B ≤ g) : Bs w' B A n l :=
  h.keep fun p hp => World.cell?_of_block (hg.block p.block (by omega) (fun e => by have := hr _ e.symm; omega))
theorem Bs.lt (h : Bs w B A n l) : Bs w w.heap.size A n l :=
  ⟨h.len, fun hn => by
    obtain ⟨b, off, e, _, hc⟩ := h.place hn
    obtain ⟨u, hu⟩ := byte_get (l := l) (k := 0) (by have := h.len; omega)
    exact ⟨b, off, e, World.block_lt_of_cell? _ _ (hc 0 u hu), hc⟩⟩
/-- 's[lo:hi]' as the model gives it: the address stands under an 'if' on the capacity. -/
theorem Bs.cut (h : Bs w B A n l) {lo hi c : Nat} (hlo : lo ≤ hi) (hhi : hi ≤ n) (hc : n ≤ c) {A' : Option Addr} (hA : A' = if c = lo then A else A.map (·.add lo)) : Bs w B A' (hi - lo) ((l.take hi).drop lo) := by
  have hl := h.len
  refine ⟨by simp; omega, fun hn => ?_⟩
  obtain ⟨b, off, e, hb, hcell⟩ := h.place (by omega)
  subst e
  rw [if_neg (by omega)] at hA
  refine ⟨b, off + lo, ?_, hb, fun k u hu => ?_⟩
  · rw [hA]; by_cases h0 : lo = 0 <;> simp [Addr.add, h0]
  · rw [List.getElem?_drop, List.getElem?_take] at hu
    split at hu
    · rw [show off + lo + k = off + (lo + k) by omega]; exact hcell _ _ hu
    · cases hu
/-- 's[k:]' and 's[:k]' of a slice whose address is known. -/
theorem Bs.drop_ {b off : Nat} (h : Bs w B (some ⟨b, off, none⟩) n l) (k : Nat) : Bs w B (some ⟨b, off + k, none⟩) (n - k) (l.drop k) :=
  ⟨by simp [h.len], fun hn => by
    obtain ⟨b', off', e, hb, hc⟩ := h.place (by omega)
    injection e with e
    injection e with e1 e2 _
    subst e1 e2
    refine ⟨_, _, rfl, hb, fun j u hu => ?_⟩
    rw [List.getElem?_drop] at hu
    rw [Nat.add_assoc]
    exact hc _ _ hu⟩
theorem Bs.take_ (h : Bs w B A n l) (k : Nat) (hk : k ≤ n) : Bs w B A k (l.take k) :=
  ⟨by simp [h.len]; omega, fun hn => by
    obtain ⟨b, off, e, hb, hc⟩ := h.place (by omega)
    refine ⟨b, off, e, hb, fun j u hu => ?_⟩
    rw [List.getElem?_take] at hu
    split at hu
    · exact hc _ _ hu
    · cases hu⟩
/-- What the call owns reads as bytes. -/
theorem Bs.of_own {base : Nat} {e : TypeId} {v : Value} (h : w.ownsRow base e 1 v n (U8 l)) : ∃ A c, v = .slice A n c ∧ n ≤ c ∧ Bs w w.heap.size A n l := by
  have hl : l.length = n := by have := h.1; rw [U8_length] at this; omega
  rcases h.2 with ⟨rfl, rfl⟩ | ⟨g, cap, cur, rfl, _, hg, hnc, _, hcs, htake⟩
  · obtain rfl : l = [] := List.eq_nil_of_length_eq_zero hl
    exact ⟨none, 0, rfl, Nat.le_refl _, Bs.empty _ _ _⟩
  · refine ⟨_, cap, rfl, hnc, hl, fun hn => ⟨g, 0, rfl, ?_, fun k u hu => ?_⟩⟩
    · rcases Nat.lt_or_ge g w.heap.size with h1 | h1
      · exact h1
      · rw [Array.getElem?_eq_none h1] at hg; cases hg
    · have := h.cellAt k (by have := (List.getElem?_eq_some_iff.1 hu).1; omega)
      rw [Nat.zero_add, this, U8_get, hu]; rfl
/-- A slice of bytes that came in. -/
theorem bs_of_row {w : World} {a : Option Addr} {len cap : Nat} {zs : List Int}
    (h : (a = none ∧ len = 0 ∧ cap = 0 ∧ zs = []) ∨ ∃ x, a = some x ∧ len ≤ cap ∧ cap ≤ maxLen ∧ zs.length = cap ∧ (∀ i, i < zs.length → w.cell? (x.add i) = some (.int .u8 (zs.getD i 0))) ∧ ∀ n ∈ zs, (Lit.int .u8 n).wf = true) :
    ∃ l, Bs w w.heap.size a len l ∧ len ≤ cap ∧ cap ≤ maxLen := by
  rcases h with ⟨rfl, rfl, rfl, rfl⟩ | ⟨x, rfl, hl, hm, hz, hcell, hwz⟩
  · exact ⟨[], Bs.empty _ _ _, Nat.le_refl _, Nat.zero_le _⟩
  · refine ⟨(zs.take len).map fun n => UInt8.ofNat n.toNat, ⟨by simp; omega, fun hn => ?_⟩, hl, hm⟩
    obtain ⟨b, off, spot⟩ := x
    have hc := hcell 0 (by omega)
    have hspot : spot = none := by simpa [Addr.add] using World.cell?_spot hc
    subst hspot
    refine ⟨b, off, rfl, World.block_lt_of_cell? _ ⟨b, off, none⟩ (by simpa [Addr.add] using hc), fun k u hu => ?_⟩
    rw [List.getElem?_map] at hu
    obtain ⟨x, hx, rfl⟩ := Option.map_eq_some_iff.1 hu
    rw [List.getElem?_take] at hx
    split at hx
    · have hk := (List.getElem?_eq_some_iff.1 hx).1
      have h1 := hcell k hk
      rw [Addr.add_lit] at h1
      rw [h1, List.getD_eq_getElem?_getD, hx, Option.getD_some]
      have hw := hwz x (List.mem_of_getElem? hx)
      have hb : 0 ≤ x ∧ x ≤ 255 := by simpa [Lit.wf, IntKind.min, IntKind.max, IntKind.signed, IntKind.bits] using hw
      simp only [UInt8.toNat_ofNat']
      congr 2
      omega
    · cases hx
/-- A literal of bytes in a new block. -/
theorem Bs.new_ (w : World) (e : TypeId) (l : List UInt8) (fr : Nat × Nat) : Bs (w.alloc (.cells (U8 l).toArray e fr)) (w.heap.size + 1) (some ⟨w.heap.size, 0, none⟩) l.length l := by
  refine ⟨rfl, fun _ => ⟨_, _, rfl, by omega, fun k u hu => ?_⟩⟩
  rw [Nat.zero_add, cell_of_row _ _ _ _ _ _ (heap_alloc_new w _)]
  simp [U8_get, hu]
end

theorem Bs.lit_ (w : World) (e : TypeId) (cs : Array Value) (fr : Nat × Nat) (l : List UInt8) (h : cs.toList = U8 l) : Bs (w.alloc (.cells cs e fr)) (w.heap.size + 1) (some ⟨w.heap.size, 0, none⟩) l.length l := by
  have : cs = (U8 l).toArray := by rw [← h]
  rw [this]
  exact Bs.new_ w e l fr
/-- 'string(b)' of bytes. -/
theorem run_string_bs {P : Program} {w : World} {B : Nat} {A : Option Addr} {n : Nat} {l : List UInt8} (hb : Bs w B A n l) (src dst e : TypeId) (c : Nat)
    (hs : P.underlying src = some (.slice e)) (he : P.underlying e = some (.int .u8)) (hd : P.underlying dst = some .string) :
    (convert src dst (.slice A n c)).run P w = .ok (.string ⟨l.toArray⟩) w := by
  have hl := hb.len
  rcases A with _ | ad
  · have hm : n = 0 := by
      rcases Nat.eq_zero_or_pos n with h0 | h0
      · exact h0
      · obtain ⟨_, _, h, _⟩ := hb.place h0
        cases h
    subst hm
    obtain rfl : l = [] := List.eq_nil_of_length_eq_zero hl
    exact run_convert_bytes_nil w src e hs he 0 c dst hd
  · have hload : (loadCells ad n).run P w = .ok ((l.map fun u => (u.toNat : Int)).map (Value.int .u8)).toArray w := by
      have := run_loadCells_list (P := P) w ad (U8 l) (fun j v hj => by
        rw [U8_get] at hj
        obtain ⟨x, hx, rfl⟩ := Option.map_eq_some_iff.1 hj
        have hj := (List.getElem?_eq_some_iff.1 hx).1
        obtain ⟨b, off, h, _, hc⟩ := hb.place (by omega)
        injection h with h
        subst h
        rw [Addr.add_lit]
        exact hc j x hx)
      rw [U8_length, hl] at this
      rw [this, U8, List.map_map]; rfl
    rw [run_convert_bytes_string w src dst e _ n c hs he hd, run_bytesToString w _ n c _ hload, foldl_push_bytes]
    have e1 : (l.map fun u => (u.toNat : Int)).map (fun n => UInt8.ofNat n.toNat) = l := by
      rw [List.map_map]
      exact (List.map_congr_left (fun u _ => by simp)).trans (List.map_id l)
    rw [e1]
    simp [ByteArray.empty, ByteArray.emptyWithCapacity]
    rfl
/-- A returned slice of the call's own, the bytes l; nothing that was there has turned. -/
def RetOwn (e5 : TypeId) (l : List UInt8) (w : World) (e : Ending) (w' : World) : Prop :=
  ∃ v, e = .returned v ∧ w'.ownsRow w.heap.size e5 1 v l.length (U8 l) ∧ Below w.heap.size w w'

/-- .. read as a slice; its length stands under a name. -/
theorem RetOwn.slice_ {e5 : TypeId} {l : List UInt8} {w w' : World} {e : Ending} (h : RetOwn e5 l w e w') :
    ∃ A N c, e = .returned (.slice A N c) ∧ N ≤ c ∧ Hid (N = l.length) ∧ Bs w' w'.heap.size A N l ∧ Below w.heap.size w w' := by
  obtain ⟨v, rfl, h1, h2⟩ := h
  obtain ⟨A, c, rfl, hc, hb⟩ := Bs.of_own h1
  exact ⟨A, _, c, rfl, hc, rfl, hb, h2⟩
section
variable {P : Program} (w : World)
theorem run_append_bs (base : Nat) (t ty e : TypeId) (i : TypeInfo) (ht : P.underlying t = some (.slice e)) (hi : P.info? e = some i) (hz : i.zero = some (.int .u8 0))
    (hsize : i.size = 1) (hby : i.bytes = 1) (v : Value) (n : Nat) (xs : List Value) (hown : w.ownsRow base e 1 v n xs)
    {B : Nat} {A : Option Addr} {m c : Nat} {l : List UInt8} (hb : Bs w B A m l) (hnm : n + m ≤ 140737488355328) (hbase : base ≤ w.heap.size) :
    ∃ v' w', (Builtin.append_ #[t, t] ty #[v, .slice A m c]).run P w = .ok v' w' ∧ w'.ownsRow base e 1 v' (n + m) (xs ++ U8 l) ∧ w.grownBy w' v.ownBlock := by
  have hl := hb.len
  rcases A with _ | ad
  · have hm : m = 0 := by
      rcases Nat.eq_zero_or_pos m with h0 | h0
      · exact h0
      · obtain ⟨_, _, h, _⟩ := hb.place h0
        cases h
    subst hm
    obtain rfl : l = [] := List.eq_nil_of_length_eq_zero hl
    refine ⟨v, w, ?_, by simpa [U8] using hown, World.grownBy.refl w _⟩
    rcases hown.2 with ⟨rfl, rfl⟩ | ⟨g, cap, cur, rfl, _, _, hnc, _⟩
    · simp [Builtin.append_, run_underlying ht, sizeOf, typeInfo, hi, Builtin.lenOf, Builtin.firstCells]
    · simp [Builtin.append_, run_underlying ht, sizeOf, typeInfo, hi, Builtin.lenOf, Builtin.firstCells, hnc, storeCells]
  · have hcells : ∀ j u, (U8 l)[j]? = some u → w.cell? (ad.add j) = some u := by
      intro j u hu
      rw [U8_get] at hu
      obtain ⟨x, hx, rfl⟩ := Option.map_eq_some_iff.1 hu
      have hj := (List.getElem?_eq_some_iff.1 hx).1
      obtain ⟨b, off, h, _, hc⟩ := hb.place (by omega)
      injection h with h
      subst h
      rw [Addr.add_lit]
      exact hc j x hx
    obtain ⟨v', w', hrun, h2, h3, _⟩ := run_append_own (P := P) w base t ty e i (.int .u8 0) 1 1 ht hi hz hsize hby rfl (by omega) v n xs hown ad m c (U8 l) (by rw [U8_length]; omega) hcells (U8_one l) (by simp only [maxLen]; omega) (by omega) hbase
    exact ⟨v', w', hrun, h2, h3⟩

theorem wp_append_bs {o : Oper} {a : Act} {K : Act → World → Prop} {Q : Exit → Act → World → Prop} (s x : Operand) (t : TypeId)
    (ho : o.op = .call { callee := .builtin .append, args := #[s, x], argTypes := #[t, t] })
    (base : Nat) (e : TypeId) (i : TypeInfo) (ht : P.underlying t = some (.slice e)) (hi : P.info? e = some i) (hz : i.zero = some (.int .u8 0))
    (hsize : i.size = 1) (hby : i.bytes = 1) (v : Value) (n : Nat) (xs : List Value) (hs : a.eval s = v) (hown : w.ownsRow base e 1 v n xs)
    (B : Nat) (A : Option Addr) (m c : Nat) (l : List UInt8) (hx : a.eval x = .slice A m c) (hb : Bs w B A m l) (hnm : n + m ≤ 140737488355328) (hbase : base ≤ w.heap.size)
    (h : ∀ v' w', w'.ownsRow base e 1 v' (n + m) (xs ++ U8 l) → w.grownBy w' v.ownBlock → K (a.put o.dst v') w') : o.wp P a w K Q := by
  obtain ⟨v', w', hrun, h2, h3⟩ := run_append_bs (P := P) w base t o.type e i ht hi hz hsize hby v n xs hown (c := c) hb hnm hbase
  unfold Oper.wp execOp
  simp only [ho, resolve, invoke, builtin, Sem.run_bind, Sem.run_pure, Result.andThen_ok, List.map_toArray, List.map_cons, List.map_nil, hs, hx, hrun]
  exact h v' w' h2 h3

/-- 'append(out, x...)': out is the call's own row, x reads as bytes (nil, empty or not). -/
theorem wpList_append_bs {ops : Array Oper} {rest : List Oper} {o : Oper} {a : Act} {Q : Exit → Act → World → Prop} (hgd : o.guard = none) (s x : Operand) (t : TypeId)
    (ho : o.op = .call { callee := .builtin .append, args := #[s, x], argTypes := #[t, t] })
    (base : Nat) (e : TypeId) (i : TypeInfo) (ht : P.underlying t = some (.slice e)) (hi : P.info? e = some i) (hz : i.zero = some (.int .u8 0))
    (hsize : i.size = 1) (hby : i.bytes = 1) (v : Value) (n : Nat) (xs : List Value) (hs : a.eval s = v) (hown : w.ownsRow base e 1 v n xs)
    (B : Nat) (A : Option Addr) (m c : Nat) (l : List UInt8) (hx : a.eval x = .slice A m c) (hb : Bs w B A m l) (hnm : n + m ≤ 140737488355328) (hbase : base ≤ w.heap.size)
    (h : ∀ v' w', w'.ownsRow base e 1 v' (n + m) (xs ++ U8 l) → w.grownBy w' v.ownBlock → wpList P ops Q rest (a.put o.dst v') w') : wpList P ops Q (o :: rest) a w :=
  wpList_plain hgd fun _ hK => wp_append_bs w s x t ho base e i ht hi hz hsize hby v n xs hs hown B A m c l hx hb hnm hbase fun v' w' h2 h3 => hK _ _ (h v' w' h2 h3)
end
/-- The row that an append has written is one of the call's own. -/
theorem own_ge {w : World} {base : Nat} {e : TypeId} {size n : Nat} {v : Value} {xs : List Value} (h : w.ownsRow base e size v n xs) : ∀ k, v.ownBlock = some k → base ≤ k := fun k hk => (h.lt k hk).1
end Go.Proofs.Ytmaeofhgbelciaa
