/-
  The last answers that were kept: rows of steps, bytes that are written over.
-/
import Derived.Test.YtdlgemlpbpbhcaaCaPlays
namespace Go.Proofs.Ytdlgemlpbpbhcaa
open Go.RowKit
set_option linter.unusedVariables false
def ovs (X : List Opc) : List Value := X.flatMap Opc.vals
theorem ovs_nil : ovs [] = [] := rfl
theorem ovs_cons (s : Opc) (X : List Opc) : ovs (s :: X) = .int .i64 s.k :: .int .i64 s.a :: .int .i64 s.b :: .int .i64 s.t :: .slice s.A s.n s.c :: ovs X := rfl
theorem ovs_append (a b : List Opc) : ovs (a ++ b) = ovs a ++ ovs b := List.flatMap_append
theorem ovs_length (X : List Opc) : (ovs X).length = X.length * 5 := by
  induction X with
  | nil => rfl
  | cons s X ih => rw [ovs_cons, List.length_cons, List.length_cons, List.length_cons, List.length_cons, List.length_cons, List.length_cons, ih]; omega
theorem ovs_get : ∀ (X : List Opc) (i : Nat) (s : Opc) (j : Nat) (u : Value), X[i]? = some s → s.vals[j]? = some u → (ovs X)[i * 5 + j]? = some u
  | [], i, s, j, u, h, _ => by simp at h
  | a :: X, 0, s, j, u, h, hj => by
    obtain rfl := Option.some.inj h
    match j, hj with
    | 0, hj => exact hj
    | 1, hj => exact hj
    | 2, hj => exact hj
    | 3, hj => exact hj
    | 4, hj => exact hj
    | j + 5, hj => simp [Opc.vals] at hj
  | a :: X, i + 1, s, j, u, h, hj => by
    rw [List.getElem?_cons_succ] at h
    rw [ovs_cons, show (i + 1) * 5 + j = i * 5 + j + 1 + 1 + 1 + 1 + 1 by omega]
    exact ovs_get X i s j u h hj
theorem ovals_one (s : Opc) : ∀ u ∈ s.vals, u.oneCell' = true := five_one _ _ _ _ _ _ _
/-- A row of steps as it lies. -/
structure Oh (w : World) (B : Nat) (A : Option Addr) (n : Nat) (X : List Opc) : Prop where
  len : X.length = n
  place : 0 < n → ∃ b off, A = some ⟨b, off, none⟩ ∧ b < B ∧ ∀ (i : Nat) (s : Opc), X[i]? = some s → w.rangeAt b (off + i * 5) s.vals
section
variable {w w' : World} {B B' n : Nat} {A : Option Addr} {X : List Opc}
theorem Oh.below (h : Oh w B A n X) (hb : Below B' w w') (hB : B ≤ B') : Oh w' B A n X :=
  ⟨h.len, fun hn => by
    obtain ⟨b, off, e, hlt, hc⟩ := h.place hn
    exact ⟨b, off, e, hlt, fun i s hs j v hj => (hb.cell (p := ⟨b, off + i * 5 + j, none⟩) (by show b < _; omega)).trans (hc i s hs j v hj)⟩⟩
theorem Oh.of_own {base : Nat} {e : TypeId} {v : Value} (h : w.ownsRow base e 5 v n (ovs X)) : ∃ A c, v = .slice A n c ∧ n ≤ c ∧ Oh w w.heap.size A n X := by
  have hlen : X.length = n := by have := h.1; rw [ovs_length] at this; omega
  have h' := h
  rcases h.2 with ⟨rfl, hn⟩ | ⟨g, cap, cur, rfl, hbg, hg, hnc, _, hcs, htake⟩
  · exact ⟨Option.none, 0, by rw [hn], by omega, hlen, fun h => absurd h (by omega)⟩
  · refine ⟨_, cap, rfl, hnc, hlen, fun hn => ⟨g, 0, rfl, (Array.getElem?_eq_some_iff.1 hg).1, fun i s hs j u hj => ?_⟩⟩
    have hil := (List.getElem?_eq_some_iff.1 hs).1
    have hj5 : j < 5 := by have := (List.getElem?_eq_some_iff.1 hj).1; exact this
    rw [Nat.zero_add, h'.cellAt (i * 5 + j) (by omega)]
    exact ovs_get X i s j u hs hj
end
/-- The row of the last ones: whole, or without its first one. -/
def LastAt (w : World) (v : Value) (X : List Opc) : Prop :=
  ∃ A N c Y, w.ownsRow 0 30 5 (.slice A N c) N (ovs Y) ∧ ((v = .slice A N c ∧ X = Y) ∨ ∃ g, A = some ⟨g, 0, none⟩ ∧ v = .slice (some ⟨g, 5, none⟩) (N - 1) (c - 1) ∧ X = Y.drop 1 ∧ 0 < N)
theorem LastAt.kept {w w' : World} {v : Value} {X : List Opc} (h : LastAt w v X) (hk : ∀ (v : Value) (n : Nat) (xs : List Value), w.ownsRow 0 30 5 v n xs → w'.ownsRow 0 30 5 v n xs) : LastAt w' v X := by
  obtain ⟨A, N, c, Y, h1, h2⟩ := h
  exact ⟨A, N, c, Y, hk _ _ _ h1, h2⟩
theorem LastAt.oh {w : World} {v : Value} {X : List Opc} (h : LastAt w v X) : ∃ A c, v = .slice A X.length c ∧ X.length ≤ c ∧ Oh w w.heap.size A X.length X := by
  obtain ⟨A, N, c, Y, h1, h2⟩ := h
  have hY : Y.length = N := by have := h1.1; rw [ovs_length] at this; omega
  obtain ⟨A', c', e, hc, ho⟩ := Oh.of_own h1
  injection e with e1 _ e3
  subst e1 e3
  rcases h2 with ⟨rfl, rfl⟩ | ⟨g, rfl, rfl, rfl, hN⟩
  · rw [hY]; exact ⟨A, c, rfl, hc, ho⟩
  · have hl : (Y.drop 1).length = N - 1 := by rw [List.length_drop, hY]
    rw [hl]
    refine ⟨_, _, rfl, by omega, hl, fun h1 => ?_⟩
    obtain ⟨b, off, e, hb, hcell⟩ := ho.place hN
    injection e with e
    injection e with e1 e2 _
    subst e1 e2
    refine ⟨g, 5, rfl, hb, fun i s hs => ?_⟩
    rw [List.getElem?_drop] at hs
    have := hcell (1 + i) s hs
    rwa [show 0 + (1 + i) * 5 = 5 + i * 5 by omega] at this
theorem infoO : (Try.prog.info? 30).map (fun i => (i.zero, i.size, i.bytes)) = some (some (.agg #[.int .i64 0, .int .i64 0, .int .i64 0, .int .i64 0, .slice none 0 0]), 5, 56) := by kernel_rfl
theorem lit_new5 (w : World) (e : TypeId) (fr : Nat × Nat) (s : Opc) : ∀ j u, s.vals[j]? = some u → (w.alloc (.cells #[.int .i64 s.k, .int .i64 s.a, .int .i64 s.b, .int .i64 s.t, .slice s.A s.n s.c] e fr)).cell? ((⟨w.heap.size, 0, none⟩ : Addr).add j) = some u := by
  intro j u hu
  rw [add_lit', cell_of_row _ _ _ _ _ _ (heap_alloc_new w _), Nat.zero_add, ← Array.getElem?_toList]
  exact hu
section
variable {P : Program} (w : World)
theorem append_one5 {ops : Array Oper} {rest : List Oper} {o : Oper} {a : Act} {Q : Exit → Act → World → Prop} (hgd : o.guard = none) (s y : Operand) (t : TypeId)
    (ho : o.op = .call { callee := .builtin .append, args := #[s, y], argTypes := #[t, t] })
    (base : Nat) (e : TypeId) (i : TypeInfo) (z : Value) (ht : P.underlying t = some (.slice e)) (hi : P.info? e = some i) (hz : i.zero = some z)
    (hsize : i.size = 5) (hby : i.bytes = 56) (hzs : z.cells.size = 5) (v : Value) (X : List Opc) (hs : a.eval s = v) (hown : w.ownsRow base e 5 v X.length (ovs X))
    (x : Opc) (fr : Nat × Nat) (hy : a.eval y = .slice (some ⟨w.heap.size, 0, none⟩) 1 1) (hX : X.length ≤ 1000) (hbase : base ≤ w.heap.size)
    (h : ∀ A' c' w', w'.ownsRow base e 5 (.slice A' (X.length + 1) c') (X ++ [x]).length (ovs (X ++ [x])) → (w.alloc (.cells #[.int .i64 x.k, .int .i64 x.a, .int .i64 x.b, .int .i64 x.t, .slice x.A x.n x.c] e fr)).grownBy w' v.ownBlock → wpList P ops Q rest (a.put o.dst (.slice A' (X.length + 1) c')) w') :
    wpList P ops Q (o :: rest) a (w.alloc (.cells #[.int .i64 x.k, .int .i64 x.a, .int .i64 x.b, .int .i64 x.t, .slice x.A x.n x.c] e fr)) := by
  refine wpList_append_own _ hgd s y t ho base e i z 5 56 ht hi hz hsize hby hzs (by omega) v X.length (ovs X) hs (hown.alloc _) ⟨w.heap.size, 0, none⟩ 1 1 x.vals hy rfl (lit_new5 w e fr x) (ovals_one x) (by simp only [maxLen]; omega) (by omega) (by rw [alloc_size]; omega) ?_
  intro v' w' h2 h3 _
  have h4 : w'.ownsRow base e 5 v' (X.length + 1) (ovs (X ++ [x])) := by rw [ovs_append]; exact h2
  obtain ⟨A', c', rfl, _, _⟩ := Oh.of_own h4
  refine h A' c' w' ?_ h3
  rw [List.length_append]; exact h4
end
/-- Bytes in their own row, whatever they are. -/
def MyB (w : World) (B : Nat) (A : Option Addr) (n c : Nat) : Prop := ∃ zs : List Int, zs.length = n ∧ w.ownsRow B 5 1 (.slice A n c) n (zs.map (Value.int .u8))
theorem MyB.of {w : World} {B : Nat} {A : Option Addr} {n c : Nat} {l : List UInt8} (h : w.ownsRow B 5 1 (.slice A n c) n (U8 l)) : MyB w B A n c :=
  ⟨l.map (fun u => (u.toNat : Int)), by have := h.1; rw [U8_length] at this; rw [List.length_map]; omega, by
    have e : (l.map (fun u => (u.toNat : Int))).map (Value.int .u8) = U8 l := by rw [List.map_map]; rfl
    rw [e]; exact h⟩
theorem MyB.open_ {w : World} {B : Nat} {A : Option Addr} {n c : Nat} (h : MyB w B A n c) (hn : 0 < n) : ∃ g, A = some ⟨g, 0, none⟩ ∧ g < w.heap.size ∧ n ≤ c ∧ (∀ j, w.frozen? ⟨g, j, none⟩ = false) ∧ ∀ j, j < n → ∃ z, w.cell? ⟨g, j, none⟩ = some (.int .u8 z) := by
  obtain ⟨zs, hl, ho⟩ := h
  rcases ho.2 with ⟨_, h0⟩ | ⟨g, cap, cur, e, hb, hg, hc, _⟩
  · omega
  · injection e with e1 _ e3
    subst e1 e3
    refine ⟨g, rfl, (Array.getElem?_eq_some_iff.1 hg).1, hc, fun j => ho.frozenAt j, fun j hj => ?_⟩
    rw [ho.cellAt j (by omega), List.getElem?_map, List.getElem?_eq_getElem (by omega)]
    exact ⟨_, rfl⟩
theorem MyB.set {w : World} {B g : Nat} {n c : Nat} (h : MyB w B (some ⟨g, 0, none⟩) n c) (j : Nat) (z : Int) : MyB (w.setCell ⟨g, j, none⟩ (.int .u8 z)) B (some ⟨g, 0, none⟩) n c ∧ w.grownBy (w.setCell ⟨g, j, none⟩ (.int .u8 z)) (some g) := by
  obtain ⟨zs, hl, ho⟩ := h
  obtain ⟨h1, h2⟩ := ho.stored j (.int .u8 z)
  refine ⟨⟨zs.set j z, by rw [List.length_set]; exact hl, ?_⟩, h2⟩
  rw [List.map_set]; exact h1
/-- The cache, where bytes of no one of its answers are written over. -/
theorem CaAt.off {w w' : World} {cb : Nat} {v x : Value} {vs : List An} {qs : List Qa} {B n sz : Nat} {xs : List Value} (h : CaAt w cb v vs qs) (hx : w.ownsRow B 5 sz x n xs) (ho : ∀ s ∈ vs, s.A = none ∨ ∀ a, s.A = some a → some a.block ≠ x.ownBlock) (hw : w.grownBy w' x.ownBlock) : CaAt w' cb v vs qs := by
  have hcb : some cb ≠ x.ownBlock := fun e => own_ne hx h.blk (by decide) e.symm
  refine ⟨(hw.block cb h.lt hcb).trans h.blk, h.row.kept hw (own_apart h.row hx (by decide)), h.tok, h.len, h.few, fun k s q hs hq => ?_⟩
  have hk := h.each k s q hs hq
  refine ⟨hk.f, hk.i, hk.t, hk.b.kept hw ?_, hk.max⟩
  cases hA : s.A with
  | none => exact .inl rfl
  | some a =>
    refine .inr fun e => ?_
    rcases ho s (List.mem_of_getElem? hs) with h1 | h1
    · rw [hA] at h1; cases h1
    · exact h1 a hA e
theorem BoxAt.off {w w' : World} {g : Nat} {s : Opc} {x : Value} {B n sz : Nat} {xs : List Value} (h : w.heap[g]? = some (.cells #[.int .i64 s.k, .int .i64 s.a, .int .i64 s.b, .int .i64 s.t, .slice s.A s.n s.c] 30)) (hx : w.ownsRow B 5 sz x n xs) (hw : w.grownBy w' x.ownBlock) : w'.heap[g]? = some (.cells #[.int .i64 s.k, .int .i64 s.a, .int .i64 s.b, .int .i64 s.t, .slice s.A s.n s.c] 30) :=
  (hw.block g (Array.getElem?_eq_some_iff.1 h).1 (fun e => own_ne hx h (by decide) e.symm)).trans h
theorem and31 (x : Int) : bits .and .i64 x 31 = x % 32 := by
  show IntKind.i64.wrap ((BitVec.ofInt 64 x &&& BitVec.ofInt 64 31).toNat : Int) = x % 32
  rw [BitVec.toNat_and, show (BitVec.ofInt 64 31).toNat = 2 ^ 5 - 1 from rfl, Nat.and_two_pow_sub_one_eq_mod, BitVec.toNat_ofInt, IntWalk.i64_in _ (by omega)]
  omega
theorem and511 (x : Int) : bits .and .i64 x 511 = x % 512 := by
  show IntKind.i64.wrap ((BitVec.ofInt 64 x &&& BitVec.ofInt 64 511).toNat : Int) = x % 512
  rw [BitVec.toNat_and, show (BitVec.ofInt 64 511).toNat = 2 ^ 9 - 1 from rfl, Nat.and_two_pow_sub_one_eq_mod, BitVec.toNat_ofInt, IntWalk.i64_in _ (by omega)]
  omega
def opQ (s : Opc) : Qa := ⟨s.a, s.b, s.t, s.l⟩
def cutL {α : Type} (r : List α) : List α := if 8 < r.length then r.drop 1 else r
theorem keepQ_last {cs : List Qa} {f i T : Int} {l : List UInt8} (h0 : 0 ≤ T) (h1 : T ≤ 1099511627776) (h : ∀ q ∈ cs, q.t ≤ T) : keepQ cs f i T l = cutL (cs.filter (fun q => !(q.f == f && q.i == i)) ++ [⟨f, i, T, l⟩]) := by
  have hc : clampN T = T := by unfold clampN; omega
  unfold keepQ cutL
  rw [hc]
  have hn : (cs.filter (fun q => !(q.f == f && q.i == i))).findIdx? (fun q => decide (T < q.t)) = none := by
    rw [List.findIdx?_eq_none_iff]
    intro q hq
    have := h q (List.mem_filter.1 hq).1
    simp; omega
  dsimp only
  rw [hn]
  simp only [Option.getD_none, List.take_length, List.drop_length]
theorem opQ_keep (X : List Opc) (f i T : Int) (s : Opc) (hs : s.a = f ∧ s.b = i ∧ s.t = T) : cutL ((X.map opQ).filter (fun q => !(q.f == f && q.i == i)) ++ [⟨f, i, T, s.l⟩]) = (cutL (X.filter (fun p => !(p.a == f && p.b == i)) ++ [s])).map opQ := by
  have e1 : (X.map opQ).filter (fun q => !(q.f == f && q.i == i)) = (X.filter (fun p => !(p.a == f && p.b == i))).map opQ := by rw [List.filter_map]; rfl
  have e2 : ([⟨f, i, T, s.l⟩] : List Qa) = [s].map opQ := by obtain ⟨rfl, rfl, rfl⟩ := hs; rfl
  rw [e1, e2, ← List.map_append]
  unfold cutL
  rw [List.length_map]
  split
  · rw [List.map_drop]
  · rfl
theorem mem_cutL {α : Type} {r : List α} {x : α} (h : x ∈ cutL r) : x ∈ r := by
  unfold cutL at h
  split at h
  · exact List.mem_of_mem_drop h
  · exact h
theorem find_in {cs : List Qa} (hk : cs.Pairwise (fun a b => ¬ (a.f = b.f ∧ a.i = b.i))) {q : Qa} (hq : q ∈ cs) (now : Int) : findQ cs q.f q.i now = if clampN now - q.t < 247 then some q.l else none := by
  unfold findQ
  cases hc : cs.find? (fun p => p.f == q.f && p.i == q.i) with
  | none =>
    rw [List.find?_eq_none] at hc
    exact absurd (by simp) (hc q hq)
  | some p =>
    have h1 := List.find?_some hc
    have h2 := Bool.and_eq_true_iff.1 h1
    have e := keys_one hk p (List.mem_of_find?_eq_some hc) q hq (eq_of_beq h2.1) (eq_of_beq h2.2)
    subst e; rfl
theorem keys_keep {cs : List Qa} (hk : cs.Pairwise (fun a b => ¬ (a.f = b.f ∧ a.i = b.i))) (f i T : Int) (l : List UInt8) : (cutL (cs.filter (fun q => !(q.f == f && q.i == i)) ++ [⟨f, i, T, l⟩])).Pairwise (fun a b => ¬ (a.f = b.f ∧ a.i = b.i)) := by
  have h : (cs.filter (fun q => !(q.f == f && q.i == i)) ++ [(⟨f, i, T, l⟩ : Qa)]).Pairwise (fun a b => ¬ (a.f = b.f ∧ a.i = b.i)) := by
    refine List.pairwise_append.2 ⟨hk.filter _, List.pairwise_singleton _ _, fun p hp q hq => ?_⟩
    obtain rfl := List.mem_singleton.1 hq
    have := (List.mem_filter.1 hp).2
    rintro ⟨rfl, rfl⟩
    simp at this
  unfold cutL
  split
  · exact h.sublist (List.drop_sublist _ _)
  · exact h
theorem len_cutL {α : Type} {r : List α} (h : r.length ≤ 9) : (cutL r).length ≤ 8 := by
  unfold cutL
  split
  · rw [List.length_drop]; omega
  · omega
end Go.Proofs.Ytdlgemlpbpbhcaa
