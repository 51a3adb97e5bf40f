/-
  Options: a slice of numbers with bytes.
-/
import Derived.Test.YtbclgalocipmfaaDoorCrcWalks
import Derived.Test.YtbclgalocipmfaaDoorMem
import Derived.Test.YtbclgalocipmfaaDoorOps
namespace Go.Proofs.YtbclgalocipmfaaDoor
open Go.RowKit
set_option maxRecDepth 100000
set_option linter.unusedVariables false
/-- An option as it lies: its number, where its bytes are. -/
structure Sv where
  k : Int
  A : Option Addr
  n : Nat
  c : Nat
def Sv.vals (s : Sv) : List Value := [.int .i64 s.k, .slice s.A s.n s.c]
def svs (vs : List Sv) : List Value := vs.flatMap Sv.vals
theorem svs_nil : svs [] = [] := rfl
theorem svs_cons (s : Sv) (vs : List Sv) : svs (s :: vs) = .int .i64 s.k :: .slice s.A s.n s.c :: svs vs := rfl
theorem svs_append (a b : List Sv) : svs (a ++ b) = svs a ++ svs b := List.flatMap_append
theorem svs_one1 (s : Sv) : svs [s] = [.int .i64 s.k, .slice s.A s.n s.c] := rfl
theorem svs_length (vs : List Sv) : (svs vs).length = vs.length * 2 := by
  induction vs with
  | nil => rfl
  | cons s vs ih => rw [svs_cons, List.length_cons, List.length_cons, List.length_cons, ih]; omega
theorem svs_get : ∀ (vs : List Sv) (i : Nat) (s : Sv), vs[i]? = some s → (svs vs)[i * 2]? = some (.int .i64 s.k) ∧ (svs vs)[i * 2 + 1]? = some (.slice s.A s.n s.c)
  | [], i, s, h => by simp at h
  | a :: vs, 0, s, h => by obtain rfl := Option.some.inj h; exact ⟨rfl, rfl⟩
  | a :: vs, i + 1, s, h => by
    rw [List.getElem?_cons_succ] at h
    obtain ⟨h1, h2⟩ := svs_get vs i s h
    rw [svs_cons, show (i + 1) * 2 = i * 2 + 1 + 1 by omega]
    exact ⟨h1, h2⟩
theorem svs_at : ∀ (vs : List Sv) (j : Nat) (u : Value), (svs vs)[j]? = some u → ∃ i s, vs[i]? = some s ∧ ((j = i * 2 ∧ u = .int .i64 s.k) ∨ (j = i * 2 + 1 ∧ u = .slice s.A s.n s.c))
  | [], j, u, h => by simp [svs] at h
  | a :: vs, 0, u, h => ⟨0, a, rfl, .inl ⟨rfl, (Option.some.inj h).symm⟩⟩
  | a :: vs, 1, u, h => ⟨0, a, rfl, .inr ⟨rfl, (Option.some.inj h).symm⟩⟩
  | a :: vs, j + 2, u, h => by
    obtain ⟨i, s, h1, h2⟩ := svs_at vs j u h
    refine ⟨i + 1, s, h1, ?_⟩
    rcases h2 with ⟨e, h2⟩ | ⟨e, h2⟩
    · exact .inl ⟨by omega, h2⟩
    · exact .inr ⟨by omega, h2⟩
theorem svs_one (vs : List Sv) : ∀ u ∈ svs vs, u.oneCell' = true := by
  intro u hu
  obtain ⟨j, hj⟩ := List.mem_iff_getElem?.1 hu
  obtain ⟨i, s, _, ⟨_, rfl⟩ | ⟨_, rfl⟩⟩ := svs_at vs j u hj <;> rfl
/-- A slice of options as they lie. -/
structure Sh (w : World) (B : Nat) (A : Option Addr) (n : Nat) (vs : List Sv) : Prop where
  len : vs.length = n
  place : 0 < n → ∃ b off, A = some ⟨b, off, none⟩ ∧ b < B ∧ ∀ (i : Nat) (s : Sv), vs[i]? = some s → w.cell? ⟨b, off + i * 2, none⟩ = some (.int .i64 s.k) ∧ w.cell? ⟨b, off + i * 2 + 1, none⟩ = some (.slice s.A s.n s.c)
section
variable {w w' : World} {B B' n : Nat} {A : Option Addr} {vs : List Sv}
theorem sv_get (h : Sh w B A n vs) {k : Nat} (hk : k < n) : ∃ s, vs[k]? = some s := ⟨_, List.getElem?_eq_getElem (by have := h.len; omega)⟩
theorem Sh.nil_ (w : World) (B : Nat) (A : Option Addr) : Sh w B A 0 [] := ⟨rfl, fun h => absurd h (by omega)⟩
theorem Sh.keep (h : Sh w B A n vs) (hk : ∀ p : Addr, p.block < B → w'.cell? p = w.cell? p) : Sh w' B A n vs :=
  ⟨h.len, fun hn => by
    obtain ⟨b, off, e, hb, hc⟩ := h.place hn
    exact ⟨b, off, e, hb, fun i s hs => ⟨(hk _ hb).trans (hc i s hs).1, (hk _ hb).trans (hc i s hs).2⟩⟩⟩
theorem Sh.below (h : Sh w B A n vs) (hb : Below B w w') : Sh w' B A n vs := h.keep fun _ hp => hb.cell hp
theorem Sh.below' (h : Sh w B A n vs) (hb : Below B' w w') (hB : B ≤ B') : Sh w' B A n vs := h.keep fun _ hp => hb.cell (by omega)
theorem Sh.more (h : Sh w B A n vs) (hB : B ≤ B') : Sh w B' A n vs :=
  ⟨h.len, fun hn => by
    obtain ⟨b, off, e, hb, hc⟩ := h.place hn
    exact ⟨b, off, e, by omega, hc⟩⟩
theorem Sh.lt (h : Sh w B A n vs) : Sh w w.heap.size A n vs :=
  ⟨h.len, fun hn => by
    obtain ⟨b, off, e, _, hc⟩ := h.place hn
    obtain ⟨s, hs⟩ := sv_get h hn
    exact ⟨b, off, e, World.block_lt_of_cell? _ _ (hc 0 s hs).1, hc⟩⟩
theorem Sh.range {b off : Nat} (h : Sh w B (some ⟨b, off, none⟩) n vs) {k : Nat} {s : Sv} (hs : vs[k]? = some s) : w.rangeAt b (off + k * 2) [.int .i64 s.k, .slice s.A s.n s.c] := by
  obtain ⟨b', off', e, _, hc⟩ := h.place (by have := (List.getElem?_eq_some_iff.1 hs).1; have := h.len; omega)
  injection e with e
  injection e with e1 e2
  subst e1 e2
  obtain ⟨c0, c1⟩ := hc k s hs
  intro j v hj
  match j, hj with
  | 0, hj => obtain rfl := Option.some.inj hj; exact c0
  | 1, hj => obtain rfl := Option.some.inj hj; exact c1
  | j + 2, hj => simp at hj
theorem Sh.cells {ad : Addr} (h : Sh w B (some ad) n vs) : ∀ j u, (svs vs)[j]? = some u → w.cell? (ad.add j) = some u := by
  intro j u hu
  obtain ⟨i, s, hi, hh⟩ := svs_at vs j u hu
  obtain ⟨b, off, e, _, hc⟩ := h.place (by have := (List.getElem?_eq_some_iff.1 hi).1; have := h.len; omega)
  injection e with e
  subst e
  rw [Addr.add_lit]
  rcases hh with ⟨rfl, rfl⟩ | ⟨rfl, rfl⟩
  · exact (hc i s hi).1
  · exact (hc i s hi).2
/-- A row of the call's own. -/
theorem Sh.of_own {base : Nat} {e : TypeId} {v : Value} (h : w.ownsRow base e 2 v n (svs vs)) : ∃ A c, v = .slice A n c ∧ n ≤ c ∧ Sh w w.heap.size A n vs := by
  have hlen : vs.length = n := by have := h.1; rw [svs_length] at this; omega
  have h' := h
  rcases h.2 with ⟨rfl, hn⟩ | ⟨g, cap, cur, rfl, hbg, hg, hnc, _, hcs, htake⟩
  · subst hn
    have : vs = [] := List.eq_nil_of_length_eq_zero hlen
    subst this
    exact ⟨Option.none, 0, rfl, Nat.le_refl _, Sh.nil_ _ _ _⟩
  · refine ⟨_, cap, rfl, hnc, hlen, fun hn => ⟨g, 0, rfl, (Array.getElem?_eq_some_iff.1 hg).1, fun i s hs => ?_⟩⟩
    have hil := (List.getElem?_eq_some_iff.1 hs).1
    obtain ⟨g1, g2⟩ := svs_get vs i s hs
    constructor
    · rw [Nat.zero_add, h'.cellAt (i * 2) (by omega)]; exact g1
    · rw [Nat.zero_add, h'.cellAt (i * 2 + 1) (by omega)]; exact g2
theorem Sh.cut (h : Sh w B A n vs) {lo hi c : Nat} (hlo : lo ≤ hi) (hhi : hi ≤ n) (hc : n ≤ c) {A' : Option Addr} (hA : A' = if c = lo then A else A.map (·.add (lo * 2))) : Sh w B A' (hi - lo) ((vs.take hi).drop lo) := by
  refine ⟨by rw [List.length_drop, List.length_take, h.len]; omega, fun hn => ?_⟩
  obtain ⟨b, off, rfl, hb, hcell⟩ := h.place (by omega)
  rw [if_neg (by omega)] at hA
  refine ⟨b, off + lo * 2, by rw [hA]; simp [Addr.add], hb, fun i s hs => ?_⟩
  rw [List.getElem?_drop] at hs
  have hl : lo + i < hi := by have := (List.getElem?_eq_some_iff.1 hs).1; rw [List.length_take] at this; omega
  rw [List.getElem?_take_of_lt hl] at hs
  have := hcell _ s hs
  rw [show off + lo * 2 + i * 2 = off + (lo + i) * 2 by omega]
  exact this
end
/-- The bytes that a slice value reads as. -/
def rdW (w : World) (A : Option Addr) (n : Nat) : List UInt8 :=
  (List.range n).map fun j => match A.bind fun a => w.cell? (a.add j) with | some (.int _ z) => UInt8.ofNat z.toNat | _ => 0
theorem rdW_of {w : World} {B n : Nat} {A : Option Addr} {l : List UInt8} (h : Bs w B A n l) : rdW w A n = l := by
  refine List.ext_getElem? fun k => ?_
  unfold rdW
  rw [List.getElem?_map]
  by_cases hk : k < n
  · rw [List.getElem?_range hk]
    obtain ⟨u, hu⟩ := byte_get (l := l) (k := k) (by have := h.len; omega)
    obtain ⟨b, off, rfl, _, hc⟩ := h.place (by omega)
    rw [hu]
    simp only [Option.map_some, Option.bind_some, Addr.add_lit, hc k u hu]
    congr 1
    exact UInt8.ofNat_toNat
  · rw [List.getElem?_eq_none (by simp; omega), List.getElem?_eq_none (by have := h.len; omega)]
    rfl
def rd (w : World) (s : Sv) : Int × List UInt8 := (s.k, rdW w s.A s.n)
/-- An option's bytes lie below a block. -/
structure SvAt (w : World) (B : Nat) (s : Sv) : Prop where
  bs : Bs w B s.A s.n (rdW w s.A s.n)
  cap : s.n ≤ s.c
  max : s.c ≤ maxLen
def Dp (w : World) (B : Nat) (vs : List Sv) : Prop := ∀ s ∈ vs, SvAt w B s
section
variable {w w' : World} {B B' n : Nat} {A : Option Addr} {vs : List Sv}
theorem SvAt.mk_ {s : Sv} {l : List UInt8} (h : Bs w B s.A s.n l) (h1 : s.n ≤ s.c) (h2 : s.c ≤ maxLen) : SvAt w B s ∧ rd w s = (s.k, l) := by
  have e := rdW_of h
  exact ⟨⟨by rw [e]; exact h, h1, h2⟩, by unfold rd; rw [e]⟩
theorem SvAt.keep {s : Sv} (h : SvAt w B s) (hk : ∀ p : Addr, p.block < B → w'.cell? p = w.cell? p) : SvAt w' B s ∧ rd w' s = rd w s :=
  SvAt.mk_ (h.bs.keep hk) h.cap h.max
theorem SvAt.more {s : Sv} (h : SvAt w B s) (hB : B ≤ B') : SvAt w B' s := ⟨h.bs.more hB, h.cap, h.max⟩
theorem Dp.keep (h : Dp w B vs) (hk : ∀ p : Addr, p.block < B → w'.cell? p = w.cell? p) : Dp w' B vs := fun s hs => ((h s hs).keep hk).1
theorem Dp.rd_keep (h : Dp w B vs) (hk : ∀ p : Addr, p.block < B → w'.cell? p = w.cell? p) : vs.map (rd w') = vs.map (rd w) := List.map_congr_left fun s hs => ((h s hs).keep hk).2
theorem Dp.below (h : Dp w B vs) (hb : Below B w w') : Dp w' B vs := h.keep fun _ hp => hb.cell hp
theorem Dp.rd_below (h : Dp w B vs) (hb : Below B w w') : vs.map (rd w') = vs.map (rd w) := h.rd_keep fun _ hp => hb.cell hp
theorem Dp.more (h : Dp w B vs) (hB : B ≤ B') : Dp w B' vs := fun s hs => (h s hs).more hB
theorem Dp.sub {us : List Sv} (h : Dp w B vs) (hs : ∀ s ∈ us, s ∈ vs) : Dp w B us := fun s hm => h s (hs s hm)
theorem Dp.append {us : List Sv} (h : Dp w B vs) (k : Dp w B us) : Dp w B (vs ++ us) := fun s hm => (List.mem_append.1 hm).elim (h s) (k s)
theorem Dp.nil (w : World) (B : Nat) : Dp w B [] := fun s hs => by simp at hs
theorem Dp.one {s : Sv} (h : SvAt w B s) : Dp w B [s] := fun t ht => by obtain rfl := List.mem_singleton.1 ht; exact h
end
/-- A slice that reads as options. -/
structure Os (w : World) (B : Nat) (A : Option Addr) (n : Nat) (vs : List Sv) (ps : List (Int × List UInt8)) : Prop where
  sh : Sh w B A n vs
  dp : Dp w B vs
  eq : vs.map (rd w) = ps
section
variable {w w' : World} {B B' n : Nat} {A : Option Addr} {vs : List Sv} {ps : List (Int × List UInt8)}
theorem Os.below (h : Os w B A n vs ps) (hb : Below B w w') : Os w' B A n vs ps := ⟨h.sh.below hb, h.dp.below hb, (h.dp.rd_below hb).trans h.eq⟩
theorem Os.more (h : Os w B A n vs ps) (hB : B ≤ B') : Os w B' A n vs ps := ⟨h.sh.more hB, h.dp.more hB, h.eq⟩
theorem Os.below' (h : Os w B A n vs ps) (hb : Below B' w w') (hB : B ≤ B') : Os w' B A n vs ps := h.below (hb.mono hB)
theorem Os.plen (h : Os w B A n vs ps) : ps.length = n := by rw [← h.eq, List.length_map]; exact h.sh.len
theorem Os.get (h : Os w B A n vs ps) {k : Nat} {s : Sv} (hs : vs[k]? = some s) : ∃ l, ps[k]? = some (s.k, l) ∧ Bs w B s.A s.n l := by
  refine ⟨rdW w s.A s.n, by rw [← h.eq, List.getElem?_map, hs]; rfl, (h.dp s (List.mem_of_getElem? hs)).bs⟩
theorem Os.nil_ (w : World) (B : Nat) (A : Option Addr) : Os w B A 0 [] [] := ⟨Sh.nil_ _ _ _, Dp.nil _ _, rfl⟩
end
theorem size_opt : (Tryd.prog.info? 99).map (fun i => (i.zero.map (·.cells.size), i.size, i.bytes)) = some (some 2, 2, 32) := by kernel_rfl
theorem size_opt1 : (Tryd.prog.info? 99).map (·.size) = some 2 := by kernel_rfl
theorem info_opt : ∃ i z, Tryd.prog.info? 99 = some i ∧ i.zero = some z ∧ z.cells.size = 2 ∧ i.size = 2 ∧ i.bytes = 32 := by
  have h := size_opt
  cases hi : Tryd.prog.info? 99 with
  | none => rw [hi] at h; cases h
  | some i =>
    rw [hi] at h
    simp only [Option.map_some, Option.some.injEq, Prod.mk.injEq] at h
    obtain ⟨h1, h2, h3⟩ := h
    cases hz : i.zero with
    | none => rw [hz] at h1; cases h1
    | some z =>
      rw [hz] at h1
      exact ⟨i, z, rfl, hz, Option.some.inj h1, h2, h3⟩
section
variable {P : Program} (w : World)
theorem run_append_svs (base : Nat) (t ty e : TypeId) (i : TypeInfo) (z : Value) (ht : P.underlying t = some (.slice e)) (hi : P.info? e = some i) (hz : i.zero = some z)
    (hsize : i.size = 2) (hby : i.bytes = 32) (hzs : z.cells.size = 2) (v : Value) (n : Nat) (xs : List Sv) (hown : w.ownsRow base e 2 v n (svs xs))
    {B : Nat} {A : Option Addr} {m c : Nat} {l : List Sv} (hb : Sh w B A m l) (hnm : n + m ≤ 1099511627776) (hbase : base ≤ w.heap.size) :
    ∃ v' w', (Builtin.append_ #[t, t] ty #[v, .slice A m c]).run P w = .ok v' w' ∧ w'.ownsRow base e 2 v' (n + m) (svs (xs ++ l)) ∧ w.grownBy w' v.ownBlock := by
  have hl := hb.len
  rcases A with _ | ad
  · have hm : m = 0 := by
      rcases Nat.eq_zero_or_pos m with h0 | h0
      · exact h0
      · obtain ⟨_, _, h, _⟩ := hb.place h0
        cases h
    subst hm
    obtain rfl : l = [] := List.eq_nil_of_length_eq_zero hl
    refine ⟨v, w, ?_, by simpa using hown, World.grownBy.refl w _⟩
    rcases hown.2 with ⟨rfl, rfl⟩ | ⟨g, cap, cur, rfl, _, _, hnc, _⟩
    · simp [Builtin.append_, run_underlying ht, sizeOf, typeInfo, hi, Builtin.lenOf, Builtin.firstCells]
    · simp [Builtin.append_, run_underlying ht, sizeOf, typeInfo, hi, Builtin.lenOf, Builtin.firstCells, hnc, storeCells]
  · obtain ⟨v', w', hrun, h2, h3, _⟩ := run_append_own (P := P) w base t ty e i z 2 32 ht hi hz hsize hby hzs (by omega) v n (svs xs) hown ad m c (svs l) (by rw [svs_length]; omega) hb.cells (svs_one l) (by simp only [maxLen]; omega) (by omega) hbase
    exact ⟨v', w', hrun, by rw [svs_append]; exact h2, h3⟩
theorem wp_append_svs {o : Oper} {a : Act} {K : Act → World → Prop} {Q : Exit → Act → World → Prop} (s x : Operand) (t : TypeId)
    (ho : o.op = .call { callee := .builtin .append, args := #[s, x], argTypes := #[t, t] })
    (base : Nat) (e : TypeId) (i : TypeInfo) (z : Value) (ht : P.underlying t = some (.slice e)) (hi : P.info? e = some i) (hz : i.zero = some z)
    (hsize : i.size = 2) (hby : i.bytes = 32) (hzs : z.cells.size = 2) (v : Value) (n : Nat) (xs : List Sv) (hs : a.eval s = v) (hown : w.ownsRow base e 2 v n (svs xs))
    (B : Nat) (A : Option Addr) (m c : Nat) (l : List Sv) (hx : a.eval x = .slice A m c) (hb : Sh w B A m l) (hnm : n + m ≤ 1099511627776) (hbase : base ≤ w.heap.size)
    (h : ∀ v' w', w'.ownsRow base e 2 v' (n + m) (svs (xs ++ l)) → w.grownBy w' v.ownBlock → K (a.put o.dst v') w') : o.wp P a w K Q := by
  obtain ⟨v', w', hrun, h2, h3⟩ := run_append_svs (P := P) w base t o.type e i z ht hi hz hsize hby hzs v n xs hown (c := c) hb hnm hbase
  unfold Oper.wp execOp
  simp only [ho, resolve, invoke, builtin, Sem.run_bind, Sem.run_pure, Result.andThen_ok, List.map_toArray, List.map_cons, List.map_nil, hs, hx, hrun]
  exact h v' w' h2 h3
/-- 'append(out, x...)' of options: out is the call's own row. -/
theorem wpList_append_svs {ops : Array Oper} {rest : List Oper} {o : Oper} {a : Act} {Q : Exit → Act → World → Prop} (hgd : o.guard = none) (s x : Operand) (t : TypeId)
    (ho : o.op = .call { callee := .builtin .append, args := #[s, x], argTypes := #[t, t] })
    (base : Nat) (e : TypeId) (i : TypeInfo) (z : Value) (ht : P.underlying t = some (.slice e)) (hi : P.info? e = some i) (hz : i.zero = some z)
    (hsize : i.size = 2) (hby : i.bytes = 32) (hzs : z.cells.size = 2) (v : Value) (n : Nat) (xs : List Sv) (hs : a.eval s = v) (hown : w.ownsRow base e 2 v n (svs xs))
    (B : Nat) (A : Option Addr) (m c : Nat) (l : List Sv) (hx : a.eval x = .slice A m c) (hb : Sh w B A m l) (hnm : n + m ≤ 1099511627776) (hbase : base ≤ w.heap.size)
    (h : ∀ v' w', w'.ownsRow base e 2 v' (n + m) (svs (xs ++ l)) → w.grownBy w' v.ownBlock → wpList P ops Q rest (a.put o.dst v') w') : wpList P ops Q (o :: rest) a w :=
  wpList_plain hgd fun _ hK => wp_append_svs w s x t ho base e i z ht hi hz hsize hby hzs v n xs hs hown B A m c l hx hb hnm hbase fun v' w' h2 h3 => hK _ _ (h v' w' h2 h3)
end
/-- One option, just laid. -/
theorem Sh.lit_ (w : World) (e : TypeId) (cs : Array Value) (fr : Nat × Nat) (s : Sv) (h : cs.toList = [.int .i64 s.k, .slice s.A s.n s.c]) : Sh (w.alloc (.cells cs e fr)) (w.heap.size + 1) (some ⟨w.heap.size, 0, none⟩) 1 [s] := by
  refine ⟨rfl, fun _ => ⟨w.heap.size, 0, rfl, by omega, fun i t ht => ?_⟩⟩
  cases i with
  | zero =>
    obtain rfl := Option.some.inj ht
    have hcs : cs = #[.int .i64 s.k, .slice s.A s.n s.c] := by rw [← Array.toArray_toList (xs := cs), h]
    subst hcs
    constructor
    · rw [cell_of_row _ _ _ _ _ _ (heap_alloc_new w _)]; rfl
    · rw [cell_of_row _ _ _ _ _ _ (heap_alloc_new w _)]; rfl
  | succ i => simp at ht
theorem row_kept {w w' : World} {base size n : Nat} {e : TypeId} {v : Value} {xs : List Value} (h : w.ownsRow base e size v n xs) (hk : ∀ g cs, v.ownBlock = some g → w.heap[g]? = some (.cells cs e (0, 0)) → w'.heap[g]? = w.heap[g]?) : w'.ownsRow base e size v n xs := by
  refine ⟨h.1, ?_⟩
  rcases h.2 with h2 | ⟨g, cap, cur, rfl, h3, h4, h5, h6, h7, h8⟩
  · exact .inl h2
  · exact .inr ⟨g, cap, cur, rfl, h3, (hk g cur rfl h4).trans h4, h5, h6, h7, h8⟩
theorem row_mono {w : World} {base base' size n : Nat} {e : TypeId} {v : Value} {xs : List Value} (h : w.ownsRow base e size v n xs) (hb : base' ≤ base) : w.ownsRow base' e size v n xs := by
  refine ⟨h.1, ?_⟩
  rcases h.2 with h2 | ⟨g, cap, cur, h0, h3, h4⟩
  · exact .inl h2
  · exact .inr ⟨g, cap, cur, h0, Nat.le_trans hb h3, h4⟩
theorem row_below {w w' : World} {base size n : Nat} {e : TypeId} {v : Value} {xs : List Value} (h : w.ownsRow base e size v n xs) (hb : Below w.heap.size w w') : w'.ownsRow base e size v n xs :=
  row_kept h fun g cs _ hg => hb.block g (Array.getElem?_eq_some_iff.1 hg).1
section
open Go.ChangeShapes Go.WideShapes Go.ChangeAt Go.Deep
variable {H : Type} {enc : TypeId × Value → H} {W : World} {base : Nat}
theorem trod_opts {fuel : Nat} {v : Value} {x : DataW H × List MemPlace} (hf : DataW.trod enc Tryd.prog W base (fun _ => true) true fuel 42 [v] = some x) :
    ∃ A n c vs ps, v = .slice A n c ∧ Os W W.heap.size A n vs ps ∧ n ≤ c ∧ c ≤ maxLen := by
  have hE : ∃ f0 f1 : Field, Tryd.prog.underlying 99 = some (.struct #[f0, f1]) ∧ f0.type = 3 ∧ f1.type = 24 ∧ oneCellFields Tryd.prog #[f0, f1] = true := ⟨_, _, Tryd.underlying99, rfl, rfl, by kernel_rfl⟩
  obtain ⟨f0, f1, hE, t0, t1, hone⟩ := hE
  have hsz : Tryd.prog.cellsOf 99 = 2 := by kernel_rfl
  rcases open_slice Tryd.underlying42 hf with ⟨hcs, _⟩ | ⟨x, l, c, m, n, D, Pl, hcs, _, hl, hm, hmm, _, hi⟩
  · obtain rfl : v = .slice none 0 0 := by simpa using hcs
    exact ⟨none, 0, 0, [], [], rfl, Os.nil_ _ _ _, by omega, by omega⟩
  · obtain rfl : v = .slice (some x) l c := by simpa using hcs
    rw [hsz] at hi
    have each : ∀ i : Nat, i < l → ∃ (b o : Nat) (s : Sv), x.add (i * 2) = ⟨b, o, none⟩ ∧ SvAt W W.heap.size s ∧ W.cell? ⟨b, o, none⟩ = some (.int .i64 s.k) ∧ W.cell? ⟨b, o + 1, none⟩ = some (.slice s.A s.n s.c) := by
      intro i hlt
      obtain ⟨cs', hc, ht⟩ := hi i (by rw [hmm]; simp; omega)
      obtain ⟨_, hcl, hat⟩ := World.cells?_some hc
      obtain ⟨ys, n', _, _, _, hyl, hg⟩ := DataW.trod_struct hE ht
      have fld : ∀ (j : Nat) (f : Field) (hj4 : j < 2), (#[f0, f1] : Array Field)[j]? = some f → ∃ v y, W.cell? ((x.add (i * 2)).add j) = some v ∧ DataW.trod enc Tryd.prog W base (fun _ => true) true n' f.type [v] = some y := by
        intro j f hj4 hj
        obtain ⟨ho, hk⟩ := hone_of hone j f hj
        have h1 := hg j f hj
        rw [ho, hk] at h1
        have hl4 : cs'.length = 2 := hcl
        have hd : (cs'.drop j).take 1 = [cs'[j]'(by omega)] := by rw [List.drop_eq_getElem_cons (by omega)]; rfl
        rw [hd, List.getElem?_eq_getElem (by rw [hyl]; exact hj4)] at h1
        exact ⟨_, _, (hat j (by omega)).trans (List.getElem?_eq_getElem (by omega)), h1⟩
      obtain ⟨v0, y0, k0, r0⟩ := fld 0 f0 (by omega) rfl
      obtain ⟨v1, y1, k1, r1⟩ := fld 1 f1 (by omega) rfl
      rw [t0] at r0
      rw [t1] at r1
      obtain ⟨z0, rfl, w0⟩ := trod_i64 r0
      obtain ⟨A3, n3, c3, l3, rfl, b3, le3, mx3⟩ := trod_bytes r1
      generalize x.add (i * 2) = q at *
      obtain ⟨b, o, sp⟩ := q
      have hsp : sp = none := by simpa [Addr.add] using World.cell?_spot k0
      subst hsp
      rw [Addr.add_lit] at k0 k1
      rw [Nat.add_zero] at k0
      exact ⟨b, o, ⟨z0, A3, n3, c3⟩, rfl, (SvAt.mk_ (s := ⟨z0, A3, n3, c3⟩) b3 le3 mx3).1, k0, k1⟩
    have each2 : ∀ i : Fin l, ∃ s : Sv, ∃ b o, x.add (i.val * 2) = ⟨b, o, none⟩ ∧ SvAt W W.heap.size s ∧ W.cell? ⟨b, o, none⟩ = some (.int .i64 s.k) ∧ W.cell? ⟨b, o + 1, none⟩ = some (.slice s.A s.n s.c) := fun i => by
      obtain ⟨b, o, s, h1, h2⟩ := each i.val i.isLt
      exact ⟨s, b, o, h1, h2⟩
    obtain ⟨F, hF⟩ := Classical.axiomOfChoice each2
    refine ⟨some x, l, c, List.ofFn F, _, rfl, ⟨⟨List.length_ofFn, fun hm0 => ?_⟩, fun s hs => ?_, rfl⟩, hl, hm⟩
    · obtain ⟨b, o, sp⟩ := x
      obtain ⟨b0, o0, h0, _, k0, _⟩ := hF ⟨0, hm0⟩
      have hsp : sp = none := by
        have := congrArg Addr.spot h0
        simpa [Addr.add] using this
      subst hsp
      have hb0 : b < W.heap.size := by
        have e : b = b0 := by have := congrArg Addr.block h0; simpa [Addr.add] using this
        rw [e]
        exact World.block_lt_of_cell? _ ⟨b0, o0, none⟩ k0
      refine ⟨b, o, rfl, hb0, fun i s hs => ?_⟩
      rw [List.getElem?_ofFn] at hs
      split at hs
      · rename_i hi'
        injection hs with hs
        subst hs
        obtain ⟨b1, o1, h1, _, k1, k2⟩ := hF ⟨i, hi'⟩
        rw [Addr.add_lit] at h1
        injection h1 with e1 e2 _
        rw [e1, show o + i * 2 = o1 from e2]
        exact ⟨k1, k2⟩
      · cases hs
    · obtain ⟨i, rfl⟩ := List.mem_ofFn.1 hs
      obtain ⟨_, _, _, h, _⟩ := hF i
      exact h
theorem args_opts {a : Option Addr} {len cap : Nat} {d : DataW H} {p : List MemPlace} (h : DataW.Trod enc Tryd.prog W base (fun _ => true) true 42 (.slice a len cap) d p) :
    ∃ vs ps, Os W W.heap.size a len vs ps ∧ len ≤ cap ∧ cap ≤ maxLen := by
  obtain ⟨fuel, hf⟩ := h
  have hf' : DataW.trod enc Tryd.prog W base (fun _ => true) true fuel 42 [.slice a len cap] = some (d, p) := hf
  obtain ⟨A, n, c, vs, ps, he, ho, h1, h2⟩ := trod_opts hf'
  injection he with e1 e2 e3
  subst e1 e2 e3
  exact ⟨vs, ps, ho, h1, h2⟩
end
end Go.Proofs.YtbclgalocipmfaaDoor
