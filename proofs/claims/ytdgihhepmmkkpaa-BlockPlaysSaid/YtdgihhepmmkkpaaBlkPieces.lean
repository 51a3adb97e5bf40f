/-
  Arguments opened: a row of blocks with their bytes.
-/
import Derived.Test.YtdgihhepmmkkpaaBlkArgs
import Derived.Test.YtdgihhepmmkkpaaMem
import Derived.Deep.MidRow
namespace Go.Proofs.Ytdgihhepmmkkpaa
open Go.ChangeShapes Go.WideShapes Go.ChangeAt Go.RowKit Go.Deep
set_option maxRecDepth 100000
set_option linter.unusedVariables false
/-- A block and its bytes. -/
structure Pc4 where
  num : Int
  more : Bool
  size : Int
  A : Option Addr
  n : Nat
  c : Nat
  l : List UInt8
structure Pc4At (w : World) (B b o : Nat) (s : Pc4) : Prop where
  c0 : w.cell? ⟨b, o, none⟩ = some (.int .i64 s.num)
  c1 : w.cell? ⟨b, o + 1, none⟩ = some (.bool s.more)
  c2 : w.cell? ⟨b, o + 2, none⟩ = some (.int .i64 s.size)
  c3 : w.cell? ⟨b, o + 3, none⟩ = some (.slice s.A s.n s.c)
  bs : Bs w B s.A s.n s.l
  cap : s.n ≤ s.c
  max : s.c ≤ maxLen
structure Pc4s (w : World) (B : Nat) (A : Option Addr) (m : Nat) (os : List Pc4) : Prop where
  len : os.length = m
  place : 0 < m → ∃ b off, A = some ⟨b, off, none⟩ ∧ b < B ∧ ∀ (i : Nat) (s : Pc4), os[i]? = some s → Pc4At w B b (off + i * 4) s
theorem Pc4At.keep {w w' : World} {B b o : Nat} {s : Pc4} (h : Pc4At w B b o s) (hb : b < B) (hk : ∀ p : Addr, p.block < B → w'.cell? p = w.cell? p) : Pc4At w' B b o s :=
  ⟨(hk _ hb).trans h.c0, (hk _ hb).trans h.c1, (hk _ hb).trans h.c2, (hk _ hb).trans h.c3, h.bs.keep hk, h.cap, h.max⟩
theorem Pc4s.below {w w' : World} {B B' m : Nat} {A : Option Addr} {os : List Pc4} (h : Pc4s w B A m os) (hb : Below B' w w') (hB : B ≤ B') : Pc4s w' B A m os :=
  ⟨h.len, fun hm => by
    obtain ⟨b, off, e, hlt, hc⟩ := h.place hm
    exact ⟨b, off, e, hlt, fun i s hs => (hc i s hs).keep hlt fun p hp => hb.cell (Nat.lt_of_lt_of_le hp hB)⟩⟩
def Pc4.vals (s : Pc4) : List Value := [.int .i64 s.num, .bool s.more, .int .i64 s.size, .slice s.A s.n s.c]
theorem Pc4At.range {w : World} {B b o : Nat} {s : Pc4} (h : Pc4At w B b o s) : w.rangeAt b o s.vals := by
  intro j v hj
  match j, hj with
  | 0, hj => obtain rfl := Option.some.inj hj; exact h.c0
  | 1, hj => obtain rfl := Option.some.inj hj; exact h.c1
  | 2, hj => obtain rfl := Option.some.inj hj; exact h.c2
  | 3, hj => obtain rfl := Option.some.inj hj; exact h.c3
section
variable {H : Type} {enc : TypeId × Value → H} {W : World} {base : Nat}
theorem cellsOf_pc : Try.prog.cellsOf 54 = 4 := by kernel_rfl
theorem args_pieces {a : Option Addr} {len cap : Nat} {d : DataW H} {p : List MemPlace} (h : DataW.Trod enc Try.prog W base (fun _ => true) true 52 (.slice a len cap) d p) :
    ∃ os, Pc4s W W.heap.size a len os ∧ len ≤ cap ∧ cap ≤ maxLen := by
  have hE : ∃ f0 f1 : Field, Try.prog.underlying 54 = some (.struct #[f0, f1]) ∧ f0.type = 37 ∧ f1.type = 22 ∧ f0.offset = 0 ∧ f1.offset = 3 ∧ Try.prog.cellsOf 22 = 1 := ⟨_, _, Try.underlying54, rfl, rfl, rfl, rfl, by kernel_rfl⟩
  obtain ⟨f0, f1, hE, t0, t1, o0, o1, k1⟩ := hE
  have hB : ∃ g0 g1 g2 : Field, Try.prog.underlying 37 = some (.struct #[g0, g1, g2]) ∧ g0.type = 3 ∧ g1.type = 4 ∧ g2.type = 3 ∧ oneCellFields Try.prog #[g0, g1, g2] = true := ⟨_, _, _, Try.underlying37, rfl, rfl, rfl, by kernel_rfl⟩
  obtain ⟨g0, g1, g2, hB, s0, s1, s2, hone⟩ := hB
  obtain ⟨fuel, hf⟩ := h
  rcases open_slice Try.underlying52 hf with ⟨hcs, _⟩ | ⟨x, l, c, m, n, D, Pl, hcs, _, hl, hm, hmm, _, hi⟩
  · simp [Value.cells] at hcs
    obtain ⟨rfl, rfl, rfl⟩ := hcs
    exact ⟨[], ⟨rfl, fun h => absurd h (by omega)⟩, by omega, by omega⟩
  · simp [Value.cells] at hcs
    obtain ⟨rfl, rfl, rfl⟩ := hcs
    rw [cellsOf_pc] at hi
    have each : ∀ i : Nat, i < len → ∃ (b o : Nat) (s : Pc4), x.add (i * 4) = ⟨b, o, none⟩ ∧ Pc4At W W.heap.size b o s := by
      intro i hlt
      obtain ⟨cs', hc, ht⟩ := hi i (by rw [hmm]; simp; omega)
      obtain ⟨_, hcl, hat⟩ := World.cells?_some hc
      have hl4 : cs'.length = 4 := hcl
      obtain ⟨ys, n', _, _, _, hyl, hg⟩ := DataW.trod_struct hE ht
      have r1 := hg 1 f1 rfl
      rw [o1, t1, k1, List.getElem?_eq_getElem (show 1 < ys.length by rw [hyl]; exact Nat.lt_succ_self 1)] at r1
      rw [show (cs'.drop 3).take 1 = [cs'[3]'(by omega)] by rw [List.drop_eq_getElem_cons (by omega)]; rfl] at r1
      have r0 := hg 0 f0 rfl
      rw [o0, t0, cellsOf_blk, List.getElem?_eq_getElem (show 0 < ys.length by rw [hyl]; exact Nat.succ_pos 1), List.drop_zero] at r0
      obtain ⟨zs, n2, _, _, _, hzl, hg2⟩ := DataW.trod_struct hB r0
      have fld : ∀ (j : Nat) (f : Field) (hj3 : j < 3), (#[g0, g1, g2] : Array Field)[j]? = some f → ∃ v y, W.cell? ((x.add (i * 4)).add j) = some v ∧ DataW.trod enc Try.prog W base (fun _ => true) true n2 f.type [v] = some y := by
        intro j f hj3 hj
        obtain ⟨ho, hk⟩ := hone_of hone j f hj
        have h1 := hg2 j f hj
        rw [ho, hk] at h1
        have hl3 : (cs'.take 3).length = 3 := by rw [List.length_take]; omega
        have hd : ((cs'.take 3).drop j).take 1 = [cs'[j]'(by omega)] := by rw [List.drop_eq_getElem_cons (by omega)]; simp
        rw [hd, List.getElem?_eq_getElem (by rw [hzl]; exact hj3)] at h1
        exact ⟨_, _, (hat j (by omega)).trans (List.getElem?_eq_getElem (by omega)), h1⟩
      obtain ⟨v0, y0, k0, q0⟩ := fld 0 g0 (by omega) rfl
      obtain ⟨v1, y1, k1', q1⟩ := fld 1 g1 (by omega) rfl
      obtain ⟨v2, y2, k2, q2⟩ := fld 2 g2 (by omega) rfl
      have k3 : W.cell? ((x.add (i * 4)).add 3) = some (cs'[3]'(by omega)) := (hat 3 (by omega)).trans (List.getElem?_eq_getElem (by omega))
      rw [s0] at q0
      rw [s1] at q1
      rw [s2] at q2
      obtain ⟨z0, rfl, w0⟩ := trod_i64 q0
      obtain ⟨mb, hmb, _⟩ := DataW.trod_bool Try.underlying4 q1
      obtain rfl : v1 = .bool mb := by simpa using hmb
      obtain ⟨z2, rfl, w2⟩ := trod_i64 q2
      obtain ⟨A3, n3, c3, l3, e3, b3, le3, mx3⟩ := trod_bytes r1
      rw [e3] at k3
      generalize x.add (i * 4) = q at *
      obtain ⟨b, o, sp⟩ := q
      have hsp : sp = none := by simpa [Addr.add] using World.cell?_spot k0
      subst hsp
      rw [Addr.add_lit] at k0 k1' k2 k3
      rw [Nat.add_zero] at k0
      exact ⟨b, o, ⟨z0, mb, z2, A3, n3, c3, l3⟩, rfl, ⟨k0, k1', k2, k3, b3, le3, mx3⟩⟩
    have each2 : ∀ i : Fin len, ∃ s : Pc4, ∃ b o, x.add (i.val * 4) = ⟨b, o, none⟩ ∧ Pc4At W W.heap.size b o s := fun i => by
      obtain ⟨b, o, s, h1, h2⟩ := each i.val i.isLt
      exact ⟨s, b, o, h1, h2⟩
    obtain ⟨F, hF⟩ := Classical.axiomOfChoice each2
    refine ⟨List.ofFn F, ⟨List.length_ofFn, fun hm0 => ?_⟩, hl, hm⟩
    obtain ⟨b, o, sp⟩ := x
    obtain ⟨b0, o0, h0, k0⟩ := hF ⟨0, hm0⟩
    have hsp : sp = none := by
      have := congrArg Addr.spot h0
      simpa [Addr.add] using this
    subst hsp
    have hb0 : b < W.heap.size := by
      have e : b = b0 := by have := congrArg Addr.block h0; simpa [Addr.add] using this
      rw [e]
      exact World.block_lt_of_cell? _ ⟨b0, o0, none⟩ k0.c0
    refine ⟨b, o, rfl, hb0, fun i s hs => ?_⟩
    rw [List.getElem?_ofFn] at hs
    split at hs
    · rename_i hi'
      injection hs with hs
      subst hs
      obtain ⟨b1, o1', h1, k1⟩ := hF ⟨i, hi'⟩
      rw [Addr.add_lit] at h1
      injection h1 with e1 e2 _
      rw [e1, show o + i * 4 = o1' from e2]
      exact k1
    · cases hs
end
end Go.Proofs.Ytdgihhepmmkkpaa
