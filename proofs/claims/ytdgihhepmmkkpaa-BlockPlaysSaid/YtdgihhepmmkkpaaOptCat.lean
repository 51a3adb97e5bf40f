/-
  Options copied into new memory; slices of options one behind the other.
-/
import Derived.Test.YtdgihhepmmkkpaaOptRow
namespace Go.Proofs.Ytdgihhepmmkkpaa
open Go.RowKit
set_option maxRecDepth 100000
set_option linter.unusedVariables false
section
variable {P : Program} (w : World)
theorem step_append_svs {ops : Array Oper} {o : Oper} {a : Act} {K : Act → World → Prop} {Q : Exit → Act → World → Prop} {E : Prop} (hgd : o.guard = none) (s x : Operand) (t : TypeId)
    (ho : o.op = .call { callee := .builtin .append, args := #[s, x], argTypes := #[t, t] })
    (base : Nat) (e : TypeId) (i : TypeInfo) (z : Value) (ht : P.underlying t = some (.slice e)) (hi : P.info? e = some i) (hz : i.zero = some z)
    (hsize : i.size = 2) (hby : i.bytes = 32) (hzs : z.cells.size = 2) (v : Value) (n : Nat) (xs : List Sv) (hs : a.eval s = v) (hown : w.ownsRow base e 2 v n (svs xs))
    (B : Nat) (A : Option Addr) (m c : Nat) (l : List Sv) (hx : a.eval x = .slice A m c) (hb : Sh w B A m l) (hnm : n + m ≤ 1099511627776) (hbase : base ≤ w.heap.size)
    (h : ∀ v' w', w'.ownsRow base e 2 v' (n + m) (svs (xs ++ l)) → w.grownBy w' v.ownBlock → K (a.put o.dst v') w') :
    if Region.wanted o (yielded ops a.tmps) = true then Oper.wp P o a w K Q else E := by
  have hw : Region.wanted o (yielded ops a.tmps) = true := by simp [Region.wanted, hgd]
  rw [if_pos hw]
  exact wp_append_svs w s x t ho base e i z ht hi hz hsize hby hzs v n xs hs hown B A m c l hx hb hnm hbase h
end
theorem Sh.lit0 (w : World) (e : TypeId) (s : Sv) (fr : Nat × Nat) : Sh (w.alloc (.cells #[.int .i64 s.k, .slice s.A s.n s.c] e fr)) (w.heap.size + 1) (some ⟨w.heap.size, 0, none⟩) 1 [s] := Sh.lit_ w e _ fr s rfl
/-- A slice of slices of options. -/
structure Sq where
  A : Option Addr
  n : Nat
  c : Nat
  vs : List Sv
structure Ss (w : World) (B : Nat) (A : Option Addr) (m : Nat) (L : List Sq) : Prop where
  len : L.length = m
  place : 0 < m → ∃ b off, A = some ⟨b, off, none⟩ ∧ b < B ∧ ∀ (i : Nat) (q : Sq), L[i]? = some q → w.cell? ⟨b, off + i, none⟩ = some (.slice q.A q.n q.c) ∧ Sh w B q.A q.n q.vs
theorem Ss.below' {w w' : World} {B B' m : Nat} {A : Option Addr} {L : List Sq} (h : Ss w B A m L) (hb : Below B' w w') (hB : B ≤ B') : Ss w' B A m L :=
  ⟨h.len, fun hn => by
    obtain ⟨b, off, e, hbb, hc⟩ := h.place hn
    exact ⟨b, off, e, hbb, fun i s hs => ⟨(hb.cell (p := ⟨b, off + i, none⟩) (Nat.lt_of_lt_of_le hbb hB)).trans (hc i s hs).1, (hc i s hs).2.below' hb hB⟩⟩⟩
def cat (L : List Sq) : List Sv := L.flatMap (·.vs)
theorem cat_take {L : List Sq} {k : Nat} {q : Sq} (h : L[k]? = some q) : cat (L.take (k + 1)) = cat (L.take k) ++ q.vs := by
  unfold cat
  rw [List.take_add_one, h, List.flatMap_append]; simp
theorem cat_le {L : List Sq} {k : Nat} : (cat (L.take k)).length ≤ (cat L).length := by
  have h : cat L = cat (L.take k) ++ cat (L.drop k) := by unfold cat; rw [← List.flatMap_append, List.take_append_drop]
  rw [h, List.length_append]; omega
end Go.Proofs.Ytdgihhepmmkkpaa
