/-
  Arguments opened: a row of steps, each three numbers and bytes.
-/
import Derived.Test.YtmaeofhgbelciaaArgs
import Derived.Deep.Slices
import Derived.Deep.Fields
import Derived.ChangeSame
namespace Go.Proofs.Ytmaeofhgbelciaa
open Go.ChangeShapes Go.WideShapes Go.ChangeAt Go.RowKit Go.Deep
set_option maxRecDepth 100000
/-- A step: a kind, two numbers, bytes. -/
structure Opn where
  k : Int
  a : Int
  b : Int
  A : Option Addr
  n : Nat
  c : Nat
  l : List UInt8
def I64 (x : Int) : Prop := -9223372036854775808 ≤ x ∧ x ≤ 9223372036854775807
/-- It lies in four cells; its bytes lie below block B. -/
structure OpAt (w : World) (B b o : Nat) (s : Opn) : Prop where
  c0 : w.cell? ⟨b, o, none⟩ = some (.int .i64 s.k)
  c1 : w.cell? ⟨b, o + 1, none⟩ = some (.int .i64 s.a)
  c2 : w.cell? ⟨b, o + 2, none⟩ = some (.int .i64 s.b)
  c3 : w.cell? ⟨b, o + 3, none⟩ = some (.slice s.A s.n s.c)
  bs : Bs w B s.A s.n s.l
  cap : s.n ≤ s.c
  max : s.c ≤ maxLen
  ik : I64 s.k
  ia : I64 s.a
  ib : I64 s.b
/-- A row of steps, all of it below block B. -/
structure Ops (w : World) (B : Nat) (A : Option Addr) (m : Nat) (os : List Opn) : Prop where
  len : os.length = m
  place : 0 < m → ∃ b off, A = some ⟨b, off, none⟩ ∧ b < B ∧ ∀ (i : Nat) (s : Opn), os[i]? = some s → OpAt w B b (off + i * 4) s
theorem OpAt.keep {w w' : World} {B b o : Nat} {s : Opn} (h : OpAt w B b o s) (hb : b < B) (hk : ∀ p : Addr, p.block < B → w'.cell? p = w.cell? p) : OpAt w' B b o s :=
  ⟨(hk _ hb).trans h.c0, (hk _ hb).trans h.c1, (hk _ hb).trans h.c2, (hk _ hb).trans h.c3, h.bs.keep hk, h.cap, h.max, h.ik, h.ia, h.ib⟩
theorem Ops.below {w w' : World} {B B' m : Nat} {A : Option Addr} {os : List Opn} (h : Ops w B A m os) (hb : Below B' w w') (hB : B ≤ B') : Ops w' B A m os :=
  ⟨h.len, fun hm => by
    obtain ⟨b, off, e, hlt, hc⟩ := h.place hm
    exact ⟨b, off, e, hlt, fun i s hs => (hc i s hs).keep hlt fun p hp => hb.cell (Nat.lt_of_lt_of_le hp hB)⟩⟩
theorem op_get {os : List Opn} {k : Nat} (h : k < os.length) : ∃ s, os[k]? = some s := ⟨_, List.getElem?_eq_getElem h⟩
section
variable {H : Type} {enc : TypeId × Value → H} {W : World} {base : Nat}
theorem trod_bytes {fuel : Nat} {v : Value} {x : DataW H × List MemPlace} (hf : DataW.trod enc Try.prog W base (fun _ => true) true fuel 31 [v] = some x) :
    ∃ A n c l, v = .slice A n c ∧ Bs W W.heap.size A n l ∧ n ≤ c ∧ c ≤ maxLen := by
  rcases open_ints Try.underlying31 Try.underlying5 (by kernel_rfl) hf with ⟨hcs, _⟩ | ⟨x, l, c, zs, hcs, _, hl, hm, hz, _, hcell, hwz⟩
  · obtain rfl : v = .slice none 0 0 := by simpa using hcs
    obtain ⟨l, hb, h1, h2⟩ := bs_of_row (w := W) (a := none) (len := 0) (cap := 0) (zs := []) (.inl ⟨rfl, rfl, rfl, rfl⟩)
    exact ⟨none, 0, 0, l, rfl, hb, h1, h2⟩
  · obtain rfl : v = .slice (some x) l c := by simpa using hcs
    obtain ⟨l', hb, h1, h2⟩ := bs_of_row (w := W) (a := some x) (len := l) (cap := c) (zs := zs) (.inr ⟨_, rfl, hl, hm, by simpa using hz, hcell, hwz⟩)
    exact ⟨_, _, _, l', rfl, hb, h1, h2⟩
theorem trod_i64 {fuel : Nat} {v : Value} {x : DataW H × List MemPlace} (hf : DataW.trod enc Try.prog W base (fun _ => true) true fuel 3 [v] = some x) : ∃ n, v = .int .i64 n ∧ I64 n := by
  obtain ⟨n, hn, _, hw⟩ := DataW.trod_int Try.underlying3 hf
  exact ⟨n, by simpa using hn, wf_i64 hw⟩
theorem args_ops {T E : TypeId} {f0 f1 f2 f3 : Field} (hT : Try.prog.underlying T = some (.slice E)) (hE : Try.prog.underlying E = some (.struct #[f0, f1, f2, f3])) (hone : oneCellFields Try.prog #[f0, f1, f2, f3] = true) (hsz : Try.prog.cellsOf E = 4)
    (t0 : f0.type = 3) (t1 : f1.type = 3) (t2 : f2.type = 3) (t3 : f3.type = 31)
    {a : Option Addr} {len cap : Nat} {d : DataW H} {p : List MemPlace} (h : DataW.Trod enc Try.prog W base (fun _ => true) true T (.slice a len cap) d p) :
    ∃ os, Ops W W.heap.size a len os ∧ len ≤ cap ∧ cap ≤ maxLen := by
  obtain ⟨fuel, hf⟩ := h
  rcases open_slice hT hf with ⟨hcs, _⟩ | ⟨x, l, c, m, n, D, Pl, hcs, _, hl, hm, hmm, _, hi⟩
  · simp [Value.cells] at hcs
    obtain ⟨rfl, rfl, rfl⟩ := hcs
    exact ⟨[], ⟨rfl, fun h => absurd h (by omega)⟩, by omega, by omega⟩
  · simp [Value.cells] at hcs
    obtain ⟨rfl, rfl, rfl⟩ := hcs
    rw [hsz] at hi
    have each : ∀ i : Nat, i < len → ∃ (b o : Nat) (s : Opn), x.add (i * 4) = ⟨b, o, none⟩ ∧ OpAt W W.heap.size b o s := by
      intro i hlt
      obtain ⟨cs', hc, ht⟩ := hi i (by rw [hmm]; simp; omega)
      obtain ⟨_, hcl, hat⟩ := World.cells?_some hc
      obtain ⟨ys, n', _, _, _, hyl, hg⟩ := DataW.trod_struct hE ht
      have fld : ∀ (j : Nat) (f : Field) (hj4 : j < 4), (#[f0, f1, f2, f3] : Array Field)[j]? = some f → ∃ v y, W.cell? ((x.add (i * 4)).add j) = some v ∧ DataW.trod enc Try.prog W base (fun _ => true) true n' f.type [v] = some y := by
        intro j f hj4 hj
        obtain ⟨ho, hk⟩ := hone_of hone j f hj
        have h1 := hg j f hj
        rw [ho, hk] at h1
        have hl4 : cs'.length = 4 := hcl
        have hd : (cs'.drop j).take 1 = [cs'[j]'(by omega)] := by rw [List.drop_eq_getElem_cons (by omega)]; rfl
        rw [hd, List.getElem?_eq_getElem (by rw [hyl]; exact hj4)] at h1
        exact ⟨_, _, (hat j (by omega)).trans (List.getElem?_eq_getElem (by omega)), h1⟩
      obtain ⟨v0, y0, k0, r0⟩ := fld 0 f0 (by omega) rfl
      obtain ⟨v1, y1, k1, r1⟩ := fld 1 f1 (by omega) rfl
      obtain ⟨v2, y2, k2, r2⟩ := fld 2 f2 (by omega) rfl
      obtain ⟨v3, y3, k3, r3⟩ := fld 3 f3 (by omega) rfl
      rw [t0] at r0
      rw [t1] at r1
      rw [t2] at r2
      rw [t3] at r3
      obtain ⟨z0, rfl, w0⟩ := trod_i64 r0
      obtain ⟨z1, rfl, w1⟩ := trod_i64 r1
      obtain ⟨z2, rfl, w2⟩ := trod_i64 r2
      obtain ⟨A3, n3, c3, l3, rfl, b3, le3, mx3⟩ := trod_bytes r3
      generalize x.add (i * 4) = q at *
      obtain ⟨b, o, sp⟩ := q
      have hsp : sp = none := by simpa [Addr.add] using World.cell?_spot k0
      subst hsp
      rw [Addr.add_lit] at k0 k1 k2 k3
      rw [Nat.add_zero] at k0
      exact ⟨b, o, ⟨z0, z1, z2, A3, n3, c3, l3⟩, rfl, ⟨k0, k1, k2, k3, b3, le3, mx3, w0, w1, w2⟩⟩
    have each2 : ∀ i : Fin len, ∃ s : Opn, ∃ b o, x.add (i.val * 4) = ⟨b, o, none⟩ ∧ OpAt W W.heap.size b o s := fun i => by
      obtain ⟨b, o, s, h1, h2⟩ := each i.val i.isLt
      exact ⟨s, b, o, h1, h2⟩
    obtain ⟨F, hF⟩ := Classical.axiomOfChoice each2
    refine ⟨List.ofFn F, ⟨List.length_ofFn, fun hm0 => ?_⟩, hl, hm⟩
    obtain ⟨b, o, sp⟩ := x
    obtain ⟨b0, o0, h0, k0⟩ := hF ⟨0, hm0⟩
    have hsp : sp = none := by
      have := congrArg Addr.spot h0
      simpa [Addr.add] using this
    subst hsp
    have hb0 : b < W.heap.size := by
      have e : b = b0 := by have := congrArg Addr.block h0; simpa [Addr.add] using this
      rw [e]
      exact World.block_lt_of_cell? _ ⟨b0, o0, none⟩ k0.c0
    refine ⟨b, o, rfl, hb0, fun i s hs => ?_⟩
    rw [List.getElem?_ofFn] at hs
    split at hs
    · rename_i hi'
      injection hs with hs
      subst hs
      obtain ⟨b1, o1, h1, k1⟩ := hF ⟨i, hi'⟩
      rw [Addr.add_lit] at h1
      injection h1 with e1 e2 _
      rw [e1, show o + i * 4 = o1 from e2]
      exact k1
    · cases hs
end
end Go.Proofs.Ytmaeofhgbelciaa
