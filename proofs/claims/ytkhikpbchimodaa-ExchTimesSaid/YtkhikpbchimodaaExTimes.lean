/-
  One exchange by itself: what is sent, and when.
-/
import Derived.Test.YtkhikpbchimodaaExInts
import Derived.Test.YtkhikpbchimodaaExStart2
namespace Go.Proofs.Ytkhikpbchimodaa
open Go.RowKit
set_option maxRecDepth 100000
set_option linter.unusedVariables false
/-- The exchange behind g sends. -/
def EX (l : List UInt8) (F W : Int) : Nat → Xq
  | 0 => ⟨3, 9, l, 0, W, addT F W⟩
  | g + 1 => nextX (EX l F W g)
def EQ (l : List UInt8) (F W : Int) (g : Nat) : List Xq := if g < 5 then [EX l F W g] else []
def sentX (l : List UInt8) (g : Nat) : Sq := ⟨3, 9, l, decide (g = 4)⟩
theorem EX.g_ (l : List UInt8) (F W : Int) : ∀ g, (EX l F W g).g = g
  | 0 => rfl
  | g + 1 => by show (EX l F W g).g + 1 = g + 1; rw [EX.g_ l F W g]
theorem EX.t_ (l : List UInt8) (F W : Int) : ∀ g, (EX l F W g).t = 3 ∧ (EX l F W g).i = 9 ∧ (EX l F W g).l = l
  | 0 => ⟨rfl, rfl, rfl⟩
  | g + 1 => EX.t_ l F W g
/-- When each is due. -/
theorem EX.due (l : List UInt8) {F W : Int} (hF : 0 ≤ F ∧ F ≤ 549755813888) (hW : 20 ≤ W ∧ W ≤ 30) : (EX l F W 0).u = F + W ∧ (EX l F W 1).u = F + W * 3 ∧ (EX l F W 2).u = F + W * 7 ∧ (EX l F W 3).u = F + W * 15 ∧ (EX l F W 4).u = F + W * 31 := by
  have h0 : (EX l F W 0).u = F + W := by show addT F W = _; unfold addT; omega
  have h1 : (EX l F W 1).u = F + W * 3 := by show addT (EX l F W 0).u (W * 2) = _; rw [h0]; unfold addT; omega
  have h2 : (EX l F W 2).u = F + W * 7 := by show addT (EX l F W 1).u (W * 2 * 2) = _; rw [h1]; unfold addT; omega
  have h3 : (EX l F W 3).u = F + W * 15 := by show addT (EX l F W 2).u (W * 2 * 2 * 2) = _; rw [h2]; unfold addT; omega
  have h4 : (EX l F W 4).u = F + W * 31 := by show addT (EX l F W 3).u (W * 2 * 2 * 2 * 2) = _; rw [h3]; unfold addT; omega
  exact ⟨h0, h1, h2, h3, h4⟩
theorem EX.sent (l : List UInt8) (F W : Int) (g : Nat) : sentOf (EX l F W g) = sentX l g := by
  obtain ⟨h1, h2, h3⟩ := EX.t_ l F W g
  unfold sentOf sentX
  rw [h1, h2, h3, EX.g_]
theorem EQ.one {l : List UInt8} {F W : Int} {g : Nat} (h : g < 5) : EQ l F W g = [EX l F W g] := if_pos h
theorem EQ.none_ {l : List UInt8} {F W : Int} {g : Nat} (h : ¬ g < 5) : EQ l F W g = [] := if_neg h
theorem EQ.step {l : List UInt8} {F W : Int} {g : Nat} (h : g < 5) : stepQ [EX l F W g] 0 (EX l F W g) = EQ l F W (g + 1) := by
  unfold stepQ
  rw [EX.g_]
  by_cases h4 : g = 4
  · subst h4; rfl
  · rw [if_neg h4, EQ.one (by omega)]; rfl
theorem EQ.any {l : List UInt8} {F W : Int} (g : Nat) : (EQ l F W g).any (hitX 3 9) = decide (g < 5) := by
  by_cases h : g < 5
  · obtain ⟨h1, h2, _⟩ := EX.t_ l F W g
    rw [EQ.one h, decide_eq_true h]
    simp [hitX, h1, h2]
  · rw [EQ.none_ h, decide_eq_false h]; rfl
theorem EQ.stop {l : List UInt8} {F W : Int} (g : Nat) : stopQ (EQ l F W g) 3 9 = [] := by
  by_cases h : g < 5
  · obtain ⟨h1, h2, _⟩ := EX.t_ l F W g
    rw [EQ.one h]
    simp [stopQ, hitX, h1, h2]
  · rw [EQ.none_ h]; rfl
theorem pass_ex (l : List UInt8) (F W now : Int) : ∀ (d g : Nat), g + d = 5 → ∃ G, g ≤ G ∧ G ≤ 5 ∧ passed (EQ l F W g) now = ((List.range' g (G - g)).map (sentX l), EQ l F W G) ∧ (G < 5 → now < (EX l F W G).u) ∧ (g < G → (EX l F W (G - 1)).u ≤ now)
  | 0, g, h => by
    obtain rfl : g = 5 := by omega
    exact ⟨5, Nat.le_refl _, Nat.le_refl _, rfl, fun h => absurd h (by omega), fun h => absurd h (by omega)⟩
  | d + 1, g, h => by
    have hg : g < 5 := by omega
    have hfst : [EX l F W g][fstQ [EX l F W g]]? = some (EX l F W g) := by
      have : fstQ [EX l F W g] = 0 := fmu_one _
      rw [this]; rfl
    by_cases hu : (EX l F W g).u ≤ now
    · obtain ⟨G, h1, h2, h3, h4, h5⟩ := pass_ex l F W now d (g + 1) (by omega)
      refine ⟨G, by omega, h2, ?_, h4, fun _ => ?_⟩
      · have hfs : fstQ [EX l F W g] = 0 := fmu_one _
        rw [EQ.one hg, passed_go (fun q hq => by rw [List.mem_singleton.1 hq, EX.g_]; omega) hfst hu, hfs, EQ.step hg, h3, EX.sent, show G - g = (G - (g + 1)) + 1 by omega, List.range'_succ, List.map_cons]
      · by_cases e : G = g + 1
        · subst e; exact hu
        · exact h5 (by omega)
    · refine ⟨g, Nat.le_refl _, by omega, ?_, fun _ => by omega, fun h => absurd h (by omega)⟩
      rw [EQ.one hg, passed_stop hfst hu, Nat.sub_self]; rfl
/-- Bytes in their own row, whatever they are. -/
def MyB (w : World) (B : Nat) (A : Option Addr) (n c : Nat) : Prop := ∃ zs : List Int, zs.length = n ∧ w.ownsRow B 5 1 (.slice A n c) n (zs.map (Value.int .u8))
theorem MyB.of {w : World} {B : Nat} {A : Option Addr} {n c : Nat} {l : List UInt8} (h : w.ownsRow B 5 1 (.slice A n c) n (U8 l)) : MyB w B A n c :=
  ⟨l.map (fun u => (u.toNat : Int)), by have := h.1; rw [U8_length] at this; rw [List.length_map]; omega, by
    have e : (l.map (fun u => (u.toNat : Int))).map (Value.int .u8) = U8 l := by rw [List.map_map]; rfl
    rw [e]; exact h⟩
theorem MyB.open_ {w : World} {B : Nat} {A : Option Addr} {n c : Nat} (h : MyB w B A n c) (hn : 0 < n) : ∃ g, A = some ⟨g, 0, none⟩ ∧ g < w.heap.size ∧ n ≤ c ∧ (∀ j, w.frozen? ⟨g, j, none⟩ = false) ∧ ∀ j, j < n → ∃ z, w.cell? ⟨g, j, none⟩ = some (.int .u8 z) := by
  obtain ⟨zs, hl, ho⟩ := h
  rcases ho.2 with ⟨_, h0⟩ | ⟨g, cap, cur, e, hb, hg, hc, _⟩
  · omega
  · injection e with e1 _ e3
    subst e1 e3
    refine ⟨g, rfl, (Array.getElem?_eq_some_iff.1 hg).1, hc, fun j => ho.frozenAt j, fun j hj => ?_⟩
    rw [ho.cellAt j (by omega), List.getElem?_map, List.getElem?_eq_getElem (by omega)]
    exact ⟨_, rfl⟩
theorem MyB.set {w : World} {B g : Nat} {n c : Nat} (h : MyB w B (some ⟨g, 0, none⟩) n c) (j : Nat) (z : Int) : MyB (w.setCell ⟨g, j, none⟩ (.int .u8 z)) B (some ⟨g, 0, none⟩) n c ∧ w.grownBy (w.setCell ⟨g, j, none⟩ (.int .u8 z)) (some g) := by
  obtain ⟨zs, hl, ho⟩ := h
  obtain ⟨h1, h2⟩ := ho.stored j (.int .u8 z)
  refine ⟨⟨zs.set j z, by rw [List.length_set]; exact hl, ?_⟩, h2⟩
  rw [List.map_set]; exact h1
/-- The table, where bytes of no one of its exchanges are written over. -/
theorem TbAt.off {W W' : World} {tb B sz m : Nat} {v u : Value} {T : Int} {xs : List Xr} {us : List Value} (h : TbAt W tb v T xs) (ho : W.ownsRow B 5 sz u m us) (hx : ∀ s ∈ xs, (Value.slice s.A s.n s.c).ownBlock = none ∨ (Value.slice s.A s.n s.c).ownBlock ≠ u.ownBlock) (hg : W.grownBy W' u.ownBlock) : TbAt W' tb v T xs :=
  ⟨(hg.block tb h.lt (fun e => rk_ne ho h.blk (by decide) e.symm)).trans h.blk, h.row.kept hg (rk_apart h.row ho (by decide)), fun y hy => ⟨(h.each y hy).1.kept hg (hx y hy), (h.each y hy).2⟩, h.good, h.nw⟩
/-- What stands at the head of each round of passes. -/
structure TmR (w : World) (tb : Nat) (l : List UInt8) (F W r63 : Int) (j : Nat) (now : Int) (g : Nat) (st : Bool) (wz : World) : Prop where
  tab : ∃ v vs, TbAt wz tb v now vs ∧ vs.map Xr.q = (if st then [] else EQ l F W g)
  bel : Below w.heap.size w wz
  due : 0 < g → (EX l F W (g - 1)).u ≤ now
  end_ : st = true → r63 < j
theorem TmR.below {w wz wy : World} {tb : Nat} {l : List UInt8} {F W r63 : Int} {j : Nat} {now : Int} {g : Nat} {st : Bool} (h : TmR w tb l F W r63 j now g st wz) (hb : Below wz.heap.size wz wy) : TmR w tb l F W r63 j now g st wy := by
  obtain ⟨v, vs, h1, h2⟩ := h.tab
  exact ⟨⟨v, vs, h1.below hb, h2⟩, h.bel.trans (hb.mono h.bel.size), h.due, h.end_⟩
/-- Who counts what is due comes to as many as have been sent. -/
theorem want_is {l : List UInt8} {F W now κ at_ : Int} (hF : 0 ≤ F ∧ F ≤ 549755813888) (hW : 20 ≤ W ∧ W ≤ 30) {G : Nat} (hG : G ≤ 5) (h1 : G < 5 → now < (EX l F W G).u) (h2 : 0 < G → (EX l F W (G - 1)).u ≤ now)
    (hk : (κ = 0 ∧ at_ = F + W) ∨ (κ = 1 ∧ at_ = F + W * 3 ∧ F + W ≤ now) ∨ (κ = 2 ∧ at_ = F + W * 7 ∧ F + W * 3 ≤ now) ∨ (κ = 3 ∧ at_ = F + W * 15 ∧ F + W * 7 ≤ now) ∨ (κ = 4 ∧ at_ = F + W * 31 ∧ F + W * 15 ≤ now) ∨ (κ = 5 ∧ F + W * 31 ≤ now))
    (hx : κ = 5 ∨ now < at_) : κ = G := by
  obtain ⟨e0, e1, e2, e3, e4⟩ := EX.due l hF hW
  obtain rfl | rfl | rfl | rfl | rfl | rfl : G = 0 ∨ G = 1 ∨ G = 2 ∨ G = 3 ∨ G = 4 ∨ G = 5 := by omega
  · have := h1 (by omega); rw [e0] at this; omega
  · have := h1 (by omega); have h3 := h2 (by omega); rw [e1] at this; simp only [Nat.sub_self] at h3; rw [e0] at h3; omega
  · have := h1 (by omega); have h3 := h2 (by omega); rw [e2] at this; simp only [Nat.reduceSub] at h3; rw [e1] at h3; omega
  · have := h1 (by omega); have h3 := h2 (by omega); rw [e3] at this; simp only [Nat.reduceSub] at h3; rw [e2] at h3; omega
  · have := h1 (by omega); have h3 := h2 (by omega); rw [e4] at this; simp only [Nat.reduceSub] at h3; rw [e3] at h3; omega
  · have h3 := h2 (by omega); simp only [Nat.reduceSub] at h3; rw [e4] at h3; omega
end Go.Proofs.Ytkhikpbchimodaa
