/-
  Rows of times; a row put behind another; two tables beside each other.
-/
import Derived.Test.YtkhikpbchimodaaExPlaysLaw
import Derived.Test.YtkhikpbchimodaaArgs
namespace Go.Proofs.Ytkhikpbchimodaa
open Go.ChangeShapes Go.WideShapes Go.ChangeAt Go.RowKit
set_option maxRecDepth 100000
set_option linter.unusedVariables false
/-- A row of times as they lie, all below block B. -/
structure Ts (w : World) (B : Nat) (A : Option Addr) (n : Nat) (ts : List Int) : Prop where
  len : ts.length = n
  place : 0 < n → ∃ b off, A = some ⟨b, off, none⟩ ∧ b < B ∧ ∀ (i : Nat) (t : Int), ts[i]? = some t → w.cell? ⟨b, off + i, none⟩ = some (.int .i64 t)
  each : ∀ t ∈ ts, I64 t
section
variable {H : Type} {enc : TypeId × Value → H} {W : World} {base : Nat}
theorem args_ints64 {a : Option Addr} {len cap : Nat} {d : DataW H} {p : List MemPlace} (h : DataW.Trod enc Try.prog W base (fun _ => true) true 52 (.slice a len cap) d p) :
    ∃ ts, Ts W W.heap.size a len ts ∧ len ≤ cap ∧ cap ≤ maxLen := by
  obtain ⟨fuel, hf⟩ := h
  rcases open_ints Try.underlying52 Try.underlying2 (by kernel_rfl) hf with ⟨hcs, _⟩ | ⟨x, l, c, zs, hcs, _, hl, hm, hz, _, hcell, hwz⟩
  · simp [Value.cells] at hcs
    obtain ⟨rfl, rfl, rfl⟩ := hcs
    exact ⟨[], ⟨rfl, fun h => absurd h (by omega), fun t ht => by cases ht⟩, by omega, by omega⟩
  · simp [Value.cells] at hcs
    obtain ⟨rfl, rfl, rfl⟩ := hcs
    have hz' : zs.length = cap := by simpa using hz
    refine ⟨zs.take len, ⟨by rw [List.length_take]; omega, fun hn => ?_, fun t ht => wf_i64 (hwz t (List.mem_of_mem_take ht))⟩, hl, hm⟩
    obtain ⟨b, off, spot⟩ := x
    have hc := hcell 0 (by omega)
    have hspot : spot = none := by simpa [Addr.add] using World.cell?_spot hc
    subst hspot
    refine ⟨b, off, rfl, World.block_lt_of_cell? _ ⟨b, off, none⟩ (by simpa [Addr.add] using hc), fun k u hu => ?_⟩
    rw [List.getElem?_take] at hu
    split at hu
    · have hk := (List.getElem?_eq_some_iff.1 hu).1
      have h1 := hcell k hk
      rw [Addr.add_lit] at h1
      rw [h1, List.getD_eq_getElem?_getD, hu, Option.getD_some]
    · cases hu
end
theorem and255_ (x : Int) : bits .and .i64 x 255 = x % 256 := by
  show IntKind.i64.wrap ((BitVec.ofInt 64 x &&& BitVec.ofInt 64 255).toNat : Int) = x % 256
  rw [BitVec.toNat_and, show (BitVec.ofInt 64 255).toNat = 2 ^ 8 - 1 from rfl, Nat.and_two_pow_sub_one_eq_mod, BitVec.toNat_ofInt, IntWalk.i64_in _ (by omega)]
  omega
theorem and511_ (x : Int) : bits .and .i64 x 511 = x % 512 := by
  show IntKind.i64.wrap ((BitVec.ofInt 64 x &&& BitVec.ofInt 64 511).toNat : Int) = x % 512
  rw [BitVec.toNat_and, show (BitVec.ofInt 64 511).toNat = 2 ^ 9 - 1 from rfl, Nat.and_two_pow_sub_one_eq_mod, BitVec.toNat_ofInt, IntWalk.i64_in _ (by omega)]
  omega
theorem and1023_ (x : Int) : bits .and .i64 x 1023 = x % 1024 := by
  show IntKind.i64.wrap ((BitVec.ofInt 64 x &&& BitVec.ofInt 64 1023).toNat : Int) = x % 1024
  rw [BitVec.toNat_and, show (BitVec.ofInt 64 1023).toNat = 2 ^ 10 - 1 from rfl, Nat.and_two_pow_sub_one_eq_mod, BitVec.toNat_ofInt, IntWalk.i64_in _ (by omega)]
  omega
theorem and63_ (x : Int) : bits .and .i64 x 63 = x % 64 := by
  show IntKind.i64.wrap ((BitVec.ofInt 64 x &&& BitVec.ofInt 64 63).toNat : Int) = x % 64
  rw [BitVec.toNat_and, show (BitVec.ofInt 64 63).toNat = 2 ^ 6 - 1 from rfl, Nat.and_two_pow_sub_one_eq_mod, BitVec.toNat_ofInt, IntWalk.i64_in _ (by omega)]
  omega
/-- A row of the call's own put behind another. -/
theorem RowK.append_row {α : Type} {z : Nat} (K : RowK α z) {P : Program} (w : World) {ops : Array Oper} {rest : List Oper} {o : Oper} {a : Act} {Q : Exit → Act → World → Prop} (hgd : o.guard = none) (s y : Operand) (t : TypeId)
    (ho : o.op = .call { callee := .builtin .append, args := #[s, y], argTypes := #[t, t] })
    (base : Nat) (e : TypeId) (i : TypeInfo) (zv : Value) (bytes : Nat) (ht : P.underlying t = some (.slice e)) (hi : P.info? e = some i) (hz : i.zero = some zv)
    (hsize : i.size = z) (hby : i.bytes = bytes) (hzs : zv.cells.size = z) (v : Value) (n : Nat) (X : List α) (hs : a.eval s = v) (hown : w.ownsRow base e z v n (K.all X))
    (base2 : Nat) (e2 : TypeId) (u : Value) (m : Nat) (Y : List α) (hy : a.eval y = u) (hsrc : w.ownsRow base2 e2 z u m (K.all Y)) (hX : (n + m) * bytes ≤ 140737488355328) (hX2 : n + m ≤ maxLen) (hbase : base ≤ w.heap.size)
    (h : ∀ A' c' w', w'.ownsRow base e z (.slice A' (n + m) c') (n + m) (K.all (X ++ Y)) → w.grownBy w' v.ownBlock → wpList P ops Q rest (a.put o.dst (.slice A' (n + m) c')) w') :
    wpList P ops Q (o :: rest) a w := by
  have hYl := RowK.own_len hsrc
  rcases hsrc.2 with ⟨hu, hm⟩ | ⟨g, cap, cur, hu, _⟩
  · subst hm
    obtain rfl : Y = [] := List.eq_nil_of_length_eq_zero hYl
    rw [hu] at hy
    obtain ⟨A', c', hv, _⟩ := RowK.At.of_own hown
    have hr := run_append_owned_none (P := P) (w := w) base t o.type e i z ht hi v n _ hown
    refine wpList_plain hgd fun K1 hK => ?_
    have h1 := h A' c' w (by rw [List.append_nil, Nat.add_zero, ← hv]; exact hown) (rk_grown _ (Below.refl _ w))
    rw [Nat.add_zero, ← hv] at h1
    unfold Oper.wp execOp
    simp only [ho, resolve, invoke, builtin, Sem.run_bind, Sem.run_pure, Result.andThen_ok, List.map_toArray, List.map_cons, List.map_nil, hs, hy, hr]
    exact hK _ _ h1
  · subst hu
    refine wpList_append_own _ hgd s y t ho base e i zv z bytes ht hi hz hsize hby hzs K.pos v n (K.all X) hs hown ⟨g, 0, none⟩ m cap (K.all Y) hy (by rw [K.all_length, hYl]) (hsrc.cells (g := g) rfl) (K.all_one Y) hX2 hX hbase ?_
    intro v' w' h2 h3 _
    rw [← K.all_append] at h2
    obtain ⟨A', c', rfl, _⟩ := RowK.At.of_own h2
    exact h A' c' w' h2 h3
theorem TbAt.other {W W' : World} {ta tb : Nat} {va vb : Value} {Ta Tb : Int} {xs ys : List Xr} (hb : TbAt W tb vb Tb ys) (ha : TbAt W ta va Ta xs) (hne : ta ≠ tb) (hap : ∀ k, va.ownBlock = some k → vb.ownBlock ≠ some k) (hf : Fx ta va.ownBlock W W') : TbAt W' tb vb Tb ys :=
  ⟨(hf.block tb hb.lt (fun e => hne e.symm) (fun e => rk_ne ha.row hb.blk (by decide) e.symm)).trans hb.blk,
   hf.row_ hb.row (rk_ne hb.row ha.blk (by decide)) (by
     cases h : vb.ownBlock with
     | none => exact .inl rfl
     | some k => exact .inr (fun e => hap k e.symm h)),
   fun s hs => (hb.each s hs).fx hf ha.blk ha.row, hb.good, hb.nw⟩
theorem TbAt.grown {W W' : World} {tb B sz m : Nat} {v u : Value} {T : Int} {xs : List Xr} {us : List Value} (h : TbAt W tb v T xs) (ho : W.ownsRow B 55 sz u m us) (hg : W.grownBy W' u.ownBlock) : TbAt W' tb v T xs :=
  ⟨(hg.block tb h.lt (fun e => rk_ne ho h.blk (by decide) e.symm)).trans h.blk, h.row.kept hg (rk_apart h.row ho (by decide)), fun y hy => ⟨(h.each y hy).1.kept hg (rk_apart (h.each y hy).1 ho (by decide)), (h.each y hy).2⟩, h.good, h.nw⟩
/-- Two tables beside each other. -/
structure TwS (w : World) (ta tb : Nat) (Ta Tb : Int) (va vb : Value) (xs ys : List Xr) (W : World) : Prop where
  a : TbAt W ta va Ta xs
  b : TbAt W tb vb Tb ys
  ap : ∀ k, va.ownBlock = some k → vb.ownBlock ≠ some k
  bel : Below w.heap.size w W
theorem TwS.swap {w W : World} {ta tb : Nat} {Ta Tb : Int} {va vb : Value} {xs ys : List Xr} (h : TwS w ta tb Ta Tb va vb xs ys W) : TwS w tb ta Tb Ta vb va ys xs W := ⟨h.b, h.a, fun k h1 h2 => h.ap k h2 h1, h.bel⟩
theorem TwS.below {w W W' : World} {ta tb : Nat} {Ta Tb : Int} {va vb : Value} {xs ys : List Xr} (h : TwS w ta tb Ta Tb va vb xs ys W) (hb : Below W.heap.size W W') : TwS w ta tb Ta Tb va vb xs ys W' := ⟨h.a.below hb, h.b.below hb, h.ap, h.bel.trans (hb.mono h.bel.size)⟩
theorem TwS.left {w W W' : World} {ta tb : Nat} {Ta Tb Ta' : Int} {va vb va' : Value} {xs ys xs' : List Xr} (h : TwS w ta tb Ta Tb va vb xs ys W) (hne : ta ≠ tb) (hw : w.heap.size ≤ ta) (hf : Fx ta va.ownBlock W W') (ha' : TbAt W' ta va' Ta' xs') (hr : RowFrom W va va') : TwS w ta tb Ta' Tb va' vb xs' ys W' :=
  ⟨ha', h.b.other h.a hne h.ap hf, fun k hk e => by
    rcases hr k hk with h1 | h1
    · exact h.ap k h1 e
    · have := (h.b.row.lt k e).2
      omega, Fx.up h.bel h.a hw hf⟩
theorem TwS.grown {w W W' : World} {ta tb sz m : Nat} {Ta Tb : Int} {va vb u : Value} {xs ys : List Xr} {us : List Value} (h : TwS w ta tb Ta Tb va vb xs ys W) (ho : W.ownsRow w.heap.size 55 sz u m us) (hg : W.grownBy W' u.ownBlock) : TwS w ta tb Ta Tb va vb xs ys W' :=
  ⟨h.a.grown ho hg, h.b.grown ho hg, h.ap, rk_in' h.bel ho hg h.bel.size⟩
theorem tell_two {T a b : Int} (h : a ≤ b) : tellT (tellT T a) b = tellT T b := by unfold tellT; omega
theorem tell_le {T a b : Int} (h : a ≤ b) : tellT T a ≤ tellT T b := by unfold tellT; omega
theorem row_same {w : World} {v v' : Value} (h : v'.ownBlock = v.ownBlock) : RowFrom w v v' := fun k hk => .inl (h ▸ hk)
end Go.Proofs.Ytkhikpbchimodaa
