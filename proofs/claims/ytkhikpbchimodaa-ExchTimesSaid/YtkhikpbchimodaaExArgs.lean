/-
  Arguments opened: a row of steps of exchanges, each five numbers and bytes.
-/
import Derived.Test.YtkhikpbchimodaaOps
import Derived.Test.YtkhikpbchimodaaMem
import Derived.Deep.MidRow
namespace Go.Proofs.Ytkhikpbchimodaa
open Go.ChangeShapes Go.WideShapes Go.ChangeAt Go.RowKit Go.Deep
set_option maxRecDepth 100000
set_option linter.unusedVariables false
/-- A step: a kind, an endpoint, an ID, bytes, a time, a random number. -/
structure Opx where
  k : Int
  a : Int
  b : Int
  A : Option Addr
  n : Nat
  c : Nat
  l : List UInt8
  t : Int
  r : Int
/-- It lies in six cells; its bytes lie below block B. -/
structure OpxAt (w : World) (B b o : Nat) (s : Opx) : Prop where
  c0 : w.cell? ⟨b, o, none⟩ = some (.int .i64 s.k)
  c1 : w.cell? ⟨b, o + 1, none⟩ = some (.int .i64 s.a)
  c2 : w.cell? ⟨b, o + 2, none⟩ = some (.int .i64 s.b)
  c3 : w.cell? ⟨b, o + 3, none⟩ = some (.slice s.A s.n s.c)
  c4 : w.cell? ⟨b, o + 4, none⟩ = some (.int .i64 s.t)
  c5 : w.cell? ⟨b, o + 5, none⟩ = some (.int .i64 s.r)
  bs : Bs w B s.A s.n s.l
  cap : s.n ≤ s.c
  max : s.c ≤ maxLen
  ik : I64 s.k
  ia : I64 s.a
  ib : I64 s.b
  it : I64 s.t
  ir : I64 s.r
/-- A row of steps, all of it below block B. -/
structure Opxs (w : World) (B : Nat) (A : Option Addr) (m : Nat) (os : List Opx) : Prop where
  len : os.length = m
  place : 0 < m → ∃ b off, A = some ⟨b, off, none⟩ ∧ b < B ∧ ∀ (i : Nat) (s : Opx), os[i]? = some s → OpxAt w B b (off + i * 6) s
theorem OpxAt.keep {w w' : World} {B b o : Nat} {s : Opx} (h : OpxAt w B b o s) (hb : b < B) (hk : ∀ p : Addr, p.block < B → w'.cell? p = w.cell? p) : OpxAt w' B b o s :=
  ⟨(hk _ hb).trans h.c0, (hk _ hb).trans h.c1, (hk _ hb).trans h.c2, (hk _ hb).trans h.c3, (hk _ hb).trans h.c4, (hk _ hb).trans h.c5, h.bs.keep hk, h.cap, h.max, h.ik, h.ia, h.ib, h.it, h.ir⟩
theorem Opxs.below {w w' : World} {B B' m : Nat} {A : Option Addr} {os : List Opx} (h : Opxs w B A m os) (hb : Below B' w w') (hB : B ≤ B') : Opxs w' B A m os :=
  ⟨h.len, fun hm => by
    obtain ⟨b, off, e, hlt, hc⟩ := h.place hm
    exact ⟨b, off, e, hlt, fun i s hs => (hc i s hs).keep hlt fun p hp => hb.cell (Nat.lt_of_lt_of_le hp hB)⟩⟩
theorem opx_get {os : List Opx} {k : Nat} (h : k < os.length) : ∃ s, os[k]? = some s := ⟨_, List.getElem?_eq_getElem h⟩
def Opx.vals (s : Opx) : List Value := [.int .i64 s.k, .int .i64 s.a, .int .i64 s.b, .slice s.A s.n s.c, .int .i64 s.t, .int .i64 s.r]
theorem OpxAt.range {w : World} {B b o : Nat} {s : Opx} (h : OpxAt w B b o s) : w.rangeAt b o s.vals := by
  intro j v hj
  match j, hj with
  | 0, hj => obtain rfl := Option.some.inj hj; exact h.c0
  | 1, hj => obtain rfl := Option.some.inj hj; exact h.c1
  | 2, hj => obtain rfl := Option.some.inj hj; exact h.c2
  | 3, hj => obtain rfl := Option.some.inj hj; exact h.c3
  | 4, hj => obtain rfl := Option.some.inj hj; exact h.c4
  | 5, hj => obtain rfl := Option.some.inj hj; exact h.c5
section
variable {H : Type} {enc : TypeId × Value → H} {W : World} {base : Nat}
theorem trod_i64b {fuel : Nat} {v : Value} {x : DataW H × List MemPlace} (hf : DataW.trod enc Try.prog W base (fun _ => true) true fuel 2 [v] = some x) : ∃ n, v = .int .i64 n ∧ I64 n := by
  obtain ⟨n, hn, _, hw⟩ := DataW.trod_int Try.underlying2 hf
  exact ⟨n, by simpa using hn, wf_i64 hw⟩
theorem args_opsx {T E : TypeId} {f0 f1 f2 f3 f4 f5 : Field} (hT : Try.prog.underlying T = some (.slice E)) (hE : Try.prog.underlying E = some (.struct #[f0, f1, f2, f3, f4, f5])) (hone : oneCellFields Try.prog #[f0, f1, f2, f3, f4, f5] = true) (hsz : Try.prog.cellsOf E = 6)
    (t0 : f0.type = 3) (t1 : f1.type = 3) (t2 : f2.type = 3) (t3 : f3.type = 30) (t4 : f4.type = 2) (t5 : f5.type = 3)
    {a : Option Addr} {len cap : Nat} {d : DataW H} {p : List MemPlace} (h : DataW.Trod enc Try.prog W base (fun _ => true) true T (.slice a len cap) d p) :
    ∃ os, Opxs W W.heap.size a len os ∧ len ≤ cap ∧ cap ≤ maxLen := by
  obtain ⟨fuel, hf⟩ := h
  rcases open_slice hT hf with ⟨hcs, _⟩ | ⟨x, l, c, m, n, D, Pl, hcs, _, hl, hm, hmm, _, hi⟩
  · simp [Value.cells] at hcs
    obtain ⟨rfl, rfl, rfl⟩ := hcs
    exact ⟨[], ⟨rfl, fun h => absurd h (by omega)⟩, by omega, by omega⟩
  · simp [Value.cells] at hcs
    obtain ⟨rfl, rfl, rfl⟩ := hcs
    rw [hsz] at hi
    have each : ∀ i : Nat, i < len → ∃ (b o : Nat) (s : Opx), x.add (i * 6) = ⟨b, o, none⟩ ∧ OpxAt W W.heap.size b o s := by
      intro i hlt
      obtain ⟨cs', hc, ht⟩ := hi i (by rw [hmm]; simp; omega)
      obtain ⟨_, hcl, hat⟩ := World.cells?_some hc
      obtain ⟨ys, n', _, _, _, hyl, hg⟩ := DataW.trod_struct hE ht
      have fld : ∀ (j : Nat) (f : Field) (hj4 : j < 6), (#[f0, f1, f2, f3, f4, f5] : Array Field)[j]? = some f → ∃ v y, W.cell? ((x.add (i * 6)).add j) = some v ∧ DataW.trod enc Try.prog W base (fun _ => true) true n' f.type [v] = some y := by
        intro j f hj4 hj
        obtain ⟨ho, hk⟩ := hone_of hone j f hj
        have h1 := hg j f hj
        rw [ho, hk] at h1
        have hl4 : cs'.length = 6 := hcl
        have hd : (cs'.drop j).take 1 = [cs'[j]'(by omega)] := by rw [List.drop_eq_getElem_cons (by omega)]; rfl
        rw [hd, List.getElem?_eq_getElem (by rw [hyl]; exact hj4)] at h1
        exact ⟨_, _, (hat j (by omega)).trans (List.getElem?_eq_getElem (by omega)), h1⟩
      obtain ⟨v0, y0, k0, r0⟩ := fld 0 f0 (by omega) rfl
      obtain ⟨v1, y1, k1, r1⟩ := fld 1 f1 (by omega) rfl
      obtain ⟨v2, y2, k2, r2⟩ := fld 2 f2 (by omega) rfl
      obtain ⟨v3, y3, k3, r3⟩ := fld 3 f3 (by omega) rfl
      obtain ⟨v4, y4, k4, r4⟩ := fld 4 f4 (by omega) rfl
      obtain ⟨v5, y5, k5, r5⟩ := fld 5 f5 (by omega) rfl
      rw [t0] at r0
      rw [t1] at r1
      rw [t2] at r2
      rw [t3] at r3
      rw [t4] at r4
      rw [t5] at r5
      obtain ⟨z0, rfl, w0⟩ := trod_i64 r0
      obtain ⟨z1, rfl, w1⟩ := trod_i64 r1
      obtain ⟨z2, rfl, w2⟩ := trod_i64 r2
      obtain ⟨A3, n3, c3, l3, rfl, b3, le3, mx3⟩ := trod_bytes r3
      obtain ⟨z4, rfl, w4⟩ := trod_i64b r4
      obtain ⟨z5, rfl, w5⟩ := trod_i64 r5
      generalize x.add (i * 6) = q at *
      obtain ⟨b, o, sp⟩ := q
      have hsp : sp = none := by simpa [Addr.add] using World.cell?_spot k0
      subst hsp
      rw [Addr.add_lit] at k0 k1 k2 k3 k4 k5
      rw [Nat.add_zero] at k0
      exact ⟨b, o, ⟨z0, z1, z2, A3, n3, c3, l3, z4, z5⟩, rfl, ⟨k0, k1, k2, k3, k4, k5, b3, le3, mx3, w0, w1, w2, w4, w5⟩⟩
    have each2 : ∀ i : Fin len, ∃ s : Opx, ∃ b o, x.add (i.val * 6) = ⟨b, o, none⟩ ∧ OpxAt W W.heap.size b o s := fun i => by
      obtain ⟨b, o, s, h1, h2⟩ := each i.val i.isLt
      exact ⟨s, b, o, h1, h2⟩
    obtain ⟨F, hF⟩ := Classical.axiomOfChoice each2
    refine ⟨List.ofFn F, ⟨List.length_ofFn, fun hm0 => ?_⟩, hl, hm⟩
    obtain ⟨b, o, sp⟩ := x
    obtain ⟨b0, o0, h0, k0⟩ := hF ⟨0, hm0⟩
    have hsp : sp = none := by
      have := congrArg Addr.spot h0
      simpa [Addr.add] using this
    subst hsp
    have hb0 : b < W.heap.size := by
      have e : b = b0 := by have := congrArg Addr.block h0; simpa [Addr.add] using this
      rw [e]
      exact World.block_lt_of_cell? _ ⟨b0, o0, none⟩ k0.c0
    refine ⟨b, o, rfl, hb0, fun i s hs => ?_⟩
    rw [List.getElem?_ofFn] at hs
    split at hs
    · rename_i hi'
      injection hs with hs
      subst hs
      obtain ⟨b1, o1, h1, k1⟩ := hF ⟨i, hi'⟩
      rw [Addr.add_lit] at h1
      injection h1 with e1 e2 _
      rw [e1, show o + i * 6 = o1 from e2]
      exact k1
    · cases hs
end
end Go.Proofs.Ytkhikpbchimodaa
