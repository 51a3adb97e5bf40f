/-
  A program that the power cuts.
-/
import Derived.Test.YtoagodgiaccadaaFlashMore
namespace Go.Proofs.Ytoagodgiaccadaa
open Go.RowKit
/-- Is byte i one that a program has turned? -/
def hit (p : Int) (n N i : Nat) (ec : Int) : Prop := 0 ≤ p ∧ p ≤ (i : Int) ∧ (i : Int) - p < (n : Int) ∧ (i : Int) - p < (N : Int) ∧ (ec = 0 ∨ ec = 30)
instance (p : Int) (n N i : Nat) (ec : Int) : Decidable (hit p n N i ec) := by unfold hit; exact inferInstance
theorem prog_cut (w : World) (g bb wb : Nat) (F : Fl) (p : Int) (A : Option Addr) (n c N : Nat) (b : List UInt8) (h : FlashAt w g bb wb F) (hb : Bs w w.heap.size A n b) (hoff : 0 < n → Off g A ∧ Off bb A ∧ Off wb A) (hcap : n ≤ c)
    (hd : F.down = false) (hc : F.cut = true) (hr : F.rest = (N : Int)) (hp1 : -9223372036854775808 ≤ p) (hp2 : p ≤ 9223372036854775807) :
    Calls Try.prog 14 #[.pointer (some ⟨g, 0, none⟩), .int .i64 p, .slice A n c] w fun e w' => ∃ ec G, e = .returned (.int .i64 ec) ∧ FlashAt w' g bb wb G ∧ But3 w.heap.size g bb wb w w' ∧ G.dat.length = F.dat.length ∧ G.sec = F.sec ∧ G.wear = F.wear ∧ G.down = decide (ec = 30) ∧
      ∀ i, i < F.dat.length → G.dat[i]? = if hit p n N i ec then b[((i : Int) - p).toNat]? else F.dat[i]? := by
  have hlb := hb.len
  by_cases hck : ck F p n = 0
  · obtain ⟨_, p0, _, pn⟩ := ck_zero hck
    obtain ⟨q, rfl⟩ : ∃ q : Nat, p = (q : Int) := ⟨p.toNat, by omega⟩
    refine (prog_yes w g bb wb F q A n c b h hb hoff hck hcap (fun _ => by rw [hr]; omega)).mono fun e w' he => ?_
    rcases he with ⟨_, h2, h3⟩ | ⟨_, h2, h3, h4⟩
    · subst h3
      refine ⟨31, F, h2, h, But3.refl _ _ _ _ _, rfl, rfl, rfl, by rw [hd]; rfl, fun i _ => ?_⟩
      rw [if_neg (fun e => by rcases e.2.2.2.2 with e | e <;> cases e)]
    · have hlast : lasts F n = min n N := by
        unfold lasts
        rw [hc, hr]
        split
        · rename_i e; have := e.2; rw [Int.toNat_natCast]; omega
        · rename_i e
          have : ¬ (N : Int) < (n : Int) := fun x => e ⟨rfl, x⟩
          omega
      have hg : gone F n = decide (N < n) := by
        unfold gone
        rw [hc, hr, decide_eq_decide]
        constructor
        · intro e; have := e.2; omega
        · intro e; exact ⟨rfl, by omega⟩
      have hbl : (b.take (min n N)).length = min n N := by rw [List.length_take]; omega
      have hdat : (progBy F q b).dat = patch F.dat q (b.take (min n N)) := by
        show patch F.dat q (b.take (lasts F b.length)) = _
        rw [hlb, hlast]
      rw [hg] at h2
      refine ⟨_, _, h2, h3, h4, by rw [hdat]; exact patch_length _ _ _ (by rw [hbl]; omega), rfl, rfl, ?_, fun i hi => ?_⟩
      · show (F.down || gone F b.length) = _
        rw [hd, hlb, hg]
        by_cases e : N < n <;> simp [e]
      · rw [hdat, patch_get _ _ _ (by rw [hbl]; omega), hbl]
        by_cases e : N < n
        · rw [show (if decide (N < n) = true then (30 : Int) else 0) = 30 by rw [decide_eq_true e]; rfl]
          by_cases hi2 : q ≤ i ∧ i < q + min n N
          · rw [if_pos hi2, if_pos ⟨by omega, by omega, by omega, by omega, .inr rfl⟩, List.getElem?_take, if_pos (by omega)]
            congr 1; omega
          · rw [if_neg hi2, if_neg (fun x => hi2 ⟨by have := x.2.1; omega, by have := x.2.2.1; have := x.2.2.2.1; omega⟩)]
        · rw [show (if decide (N < n) = true then (30 : Int) else 0) = 0 by rw [decide_eq_false e]; rfl]
          by_cases hi2 : q ≤ i ∧ i < q + min n N
          · rw [if_pos hi2, if_pos ⟨by omega, by omega, by omega, by omega, .inl rfl⟩, List.getElem?_take, if_pos (by omega)]
            congr 1; omega
          · rw [if_neg hi2, if_neg (fun x => hi2 ⟨by have := x.2.1; omega, by have := x.2.2.1; have := x.2.2.2.1; omega⟩)]
  · have hc1 : ck F p n = 1 := by
      unfold ck at hck ⊢
      rw [hd, if_neg (by decide)] at hck ⊢
      split
      · rfl
      · rename_i h; rw [if_neg h] at hck; exact absurd rfl hck
    refine (prog_no w g bb wb F p A n c h hp1 hp2 hck).mono fun e w' ⟨h2, h3⟩ => ?_
    subst h3
    rw [hc1] at h2
    refine ⟨1, F, h2, h, But3.refl _ _ _ _ _, rfl, rfl, rfl, by rw [hd]; rfl, fun i _ => ?_⟩
    rw [if_neg (fun e => by rcases e.2.2.2.2 with e | e <;> cases e)]
theorem and127i (n : Int) : ∃ N : Nat, bits .and .i64 n 127 = (N : Int) ∧ N ≤ 127 := ⟨(n % 128).toNat, by rw [i64_and127]; omega, by omega⟩
theorem and3i (n : Int) : ∃ S : Nat, bits .and .i64 n 3 = (S : Int) ∧ S ≤ 3 := by
  have h3 : (BitVec.ofInt 64 3).toNat = 2 ^ 2 - 1 := by decide
  have key : (BitVec.ofInt 64 n &&& BitVec.ofInt 64 3).toNat = (n % ((2 ^ 64 : Nat) : Int)).toNat % 2 ^ 2 := by
    rw [BitVec.toNat_and, BitVec.toNat_ofInt, h3, Nat.and_two_pow_sub_one_eq_mod]
  have e : bits .and .i64 n 3 = n % 4 := by
    show IntKind.i64.wrap ((BitVec.ofInt 64 n &&& BitVec.ofInt 64 3).toNat : Nat) = n % 4
    rw [key, IntKind.wrap_i64]
    omega
  exact ⟨(n % 4).toNat, by rw [e]; omega, by omega⟩
theorem FlashAt.eqs {w : World} {g bb wb : Nat} {F G : Fl} (h : FlashAt w g bb wb F) (e : F = G) : FlashAt w g bb wb G := e ▸ h
/-- Bytes off the flash stand as they stood. -/
theorem Bs.over {w w' : World} {g bb wb I n : Nat} {l : List UInt8} (h : Bs w w.heap.size (some ⟨I, 0, none⟩) n l) (hb : But3 w.heap.size g bb wb w w') (h1 : I ≠ g) (h2 : I ≠ bb) (h3 : I ≠ wb) : Bs w' w'.heap.size (some ⟨I, 0, none⟩) n l := by
  have hs := hb.size
  refine ⟨h.len, fun hn => ?_⟩
  obtain ⟨b, o, e, hlt', hc'⟩ := h.place hn
  injection e with e
  injection e with e1 e2 _
  subst e1 e2
  exact ⟨I, 0, rfl, by omega, fun k u hu => (hb.cell (p := ⟨I, 0 + k, none⟩) hlt' h1 h2 h3).trans (hc' k u hu)⟩
end Go.Proofs.Ytoagodgiaccadaa
