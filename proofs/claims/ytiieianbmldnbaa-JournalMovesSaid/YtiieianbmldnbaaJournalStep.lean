/-
  Put and Drop while the power is there: what comes of them.
-/
import Derived.Test.YtiieianbmldnbaaJournalLaidOk
namespace Go.Proofs.Ytiieianbmldnbaa
open Go.RowKit Go.Maps Go.Shelf
set_option maxRecDepth 100000
set_option linter.unusedVariables false
set_option maxRecDepth 100000
/-- Blank behind the last record. -/
def Tail (F : Fl) (J : JP) (s : JS) : Prop := Blk F (J.be s.cnt + s.en) (J.be s.cnt + s.size)
/-- What a step that went well leaves: the record behind the last one, or all moved. -/
def Stepped (w' : World) (J : JP) (F : Fl) (s : JS) (V : Int → Option (List UInt8)) (rec : List UInt8) : Prop :=
  (s.en + rec.length + 1 ≤ s.size ∧ ∃ G pn D, JAt w' J G { s with en := s.en + rec.length + 1, pv := pn, D := D, V := V } ∧ On G ∧ G.dat = patch F.dat (J.be s.cnt + s.en) (rec ++ [0])) ∨
  (s.size < s.en + rec.length + 1 ∧ s.ep ≠ 4294967295 ∧ ∃ G pn D, JAt w' J G { s with cnt := 1 - s.cnt, ep := s.ep + 1, en := sizeAll V, pv := pn, D := D, V := V } ∧ LaidAt F G (J.be (1 - s.cnt)) (J.si (1 - s.cnt)) (s.ep + 1) V)
theorem turn_on {W W1 : World} {J : JP} {F : Fl} {s : JS} {b : Nat} {D : DataW Value} {V : Int → Option (List UInt8)} {rec : List UInt8} {e : Ending} {w' : World} (h : JAt W J F s) (hb : Below W.heap.size W W1) (hV : Vals W1 J.lo (some b) D V) (hon : On F) (ht : Tail F J s)
    (hp : TurnPost W1 J F s (some b) V rec e w') : (∀ B, B ≤ W.heap.size → B ≤ J.g → B ≤ J.bb → B ≤ J.wb → B ≤ J.jb → Below B W w') ∧
      ((s.size < sizeAll V ∧ e = .returned (.int .i64 6) ∧ Below W.heap.size W w') ∨ (sizeAll V ≤ s.size ∧ s.size < s.en + rec.length + 1 ∧ s.ep = 4294967295 ∧ e = .returned (.int .i64 3) ∧ Below W.heap.size W w') ∨ (sizeAll V ≤ s.size ∧ e = .returned (.int .i64 0) ∧ Stepped w' J F s V rec)) := by
  have h1 := h.below hb
  have hs := hb.size
  unfold TurnPost at hp
  split at hp
  · rename_i hf
    obtain ⟨he, hb2⟩ := hp
    have hb3 := hb.trans (hb2.mono hs)
    exact ⟨fun B a _ _ _ _ => hb3.mono a, .inl ⟨hf, he, hb3⟩⟩
  · rename_i hf
    split at hp
    · rename_i hr
      obtain ⟨w1, hb1, hp⟩ := hp
      have hb2 := hb.trans (hb1.mono hs)
      rcases hp with ⟨hep, he, rfl⟩ | ⟨hep, hl⟩
      · exact ⟨fun B a _ _ _ _ => hb2.mono a, .inr (.inl ⟨by omega, by omega, hep, he, hb2⟩)⟩
      · have hbd : Below W1.heap.size W1 w1.drew := hb1.trans ((below_drew w1).mono hb1.size)
        have hj := h1.below hbd
        have hv := hV.below hbd
        have he4 := h.ep
        obtain ⟨he, G, hG, hL⟩ := lay_ok hj hv hon (by omega) (by omega) (by omega) (by omega) hl
        refine ⟨fun B a b c d f => (hb.trans (hbd.mono hs)).mono a |>.trans (hl.below (Nat.le_trans a (Nat.le_trans hs hbd.size)) b c d f), .inr (.inr ⟨by omega, he, .inr ⟨by omega, hep, G, _, _, hG, hL⟩⟩)⟩
    · rename_i hr
      obtain ⟨F', en', ec, w1, hj, he, hf', hbt, hw⟩ := hp
      have hft := (h.ok s.cnt h.cnt).fits h.fl.ok
      have hsi := h.size s.cnt h.cnt
      obtain ⟨G, e1, o1, d1, s1, w1'⟩ := jwrote_on hon (J.be s.cnt) (J.si s.cnt) s.en rec hft (by omega) (blk_less ht (Nat.le_refl _) (by omega))
      rw [e1] at hj
      obtain ⟨rfl, rfl, rfl⟩ : G = F' ∧ ((s.en + rec.length + 1 : Nat) : Int) = en' ∧ (0 : Int) = ec := by
        injection hj with a b
        injection b with b c
        exact ⟨a, b, c⟩
      rw [if_pos rfl] at hw
      subst hw
      refine ⟨fun B a b c d f => (hb.mono a).trans (below_cells (hbt.toBelow (Nat.le_trans a hs) b c d) f _ 5), .inr (.inr ⟨by omega, he, .inl ⟨by omega, G, _, _, h1.wrote (some _) D V hV rec (by omega) _ e1 hbt hf', o1, d1⟩⟩)⟩
theorem Stepped.tail {w' : World} {J : JP} {F : Fl} {s : JS} {V : Int → Option (List UInt8)} {rec : List UInt8} {W : World} (h : Stepped w' J F s V rec) (hj : JAt W J F s) (ht : Tail F J s) :
    ∃ G s', JAt w' J G s' ∧ On G ∧ Tail G J s' ∧ s'.size = s.size ∧ s'.V = V ∧ G.dat.length = F.dat.length ∧ ((s.en + rec.length + 1 ≤ s.size ∧ s'.cnt = s.cnt ∧ s'.ep = s.ep ∧ s'.en = s.en + rec.length + 1 ∧ G.dat = patch F.dat (J.be s.cnt + s.en) (rec ++ [0])) ∨ (s.size < s.en + rec.length + 1 ∧ s'.cnt = 1 - s.cnt ∧ s'.ep = s.ep + 1 ∧ s'.en = sizeAll V ∧ LaidAt F G (J.be (1 - s.cnt)) (J.si (1 - s.cnt)) (s.ep + 1) V)) := by
  rcases h with ⟨h1, G, pn, D, hG, ho, hd⟩ | ⟨h1, h2, G, pn, D, hG, hL⟩
  · have hft := (hj.ok s.cnt hj.cnt).fits hj.fl.ok
    have hsi := hj.size s.cnt hj.cnt
    refine ⟨G, _, hG, ho, ?_, rfl, rfl, by rw [hd, patch_length _ _ _ (by simp; omega)], .inl ⟨h1, rfl, rfl, rfl, hd⟩⟩
    exact blk_patch hd (by simp; omega) (blk_less ht (by show _ ≤ J.be s.cnt + (s.en + rec.length + 1); omega) (Nat.le_refl _)) (by simp; omega)
  · have hsi := hj.size (1 - s.cnt) (by omega)
    exact ⟨G, _, hG, hL.on, blk_less hL.rest (Nat.le_refl _) (by show J.be (1 - s.cnt) + s.size ≤ _; omega), rfl, rfl, hL.len, .inr ⟨h1, rfl, rfl, rfl, hL⟩⟩
theorem seals_len (a b : UInt8) (l : List UInt8) : (seals (a :: b :: l)).length = l.length + 6 := by unfold seals; simp [p32]
/-- What comes of Put. -/
def PutOn (W : World) (J : JP) (F : Fl) (s : JS) (key : Int) (l : List UInt8) (e : Ending) (w' : World) : Prop :=
  (∃ ec : Int, e = .returned (.int .i64 ec) ∧ ec ≠ 0 ∧ Below W.heap.size W w' ∧ ((key < 0 ∨ 32 ≤ key) ∧ ec = 1 ∨ (0 ≤ key ∧ key < 32) ∧ 250 < l.length ∧ ec = 2 ∨ (0 ≤ key ∧ key < 32) ∧ l.length ≤ 250 ∧ s.V key ≠ some l ∧ s.size < sizeAll (putV (dropV s.V key) key l) ∧ ec = 6 ∨ (0 ≤ key ∧ key < 32) ∧ l.length ≤ 250 ∧ s.V key ≠ some l ∧ sizeAll (putV (dropV s.V key) key l) ≤ s.size ∧ s.size < s.en + l.length + 7 ∧ s.ep = 4294967295 ∧ ec = 3)) ∨
  ((0 ≤ key ∧ key < 32) ∧ l.length ≤ 250 ∧ e = .returned (.int .i64 0) ∧ s.V key = some l ∧ Below W.heap.size W w') ∨
  ((0 ≤ key ∧ key < 32) ∧ l.length ≤ 250 ∧ e = .returned (.int .i64 0) ∧ s.V key ≠ some l ∧ sizeAll (putV (dropV s.V key) key l) ≤ s.size ∧ Stepped w' J F s (putV (dropV s.V key) key l) (seals (UInt8.ofNat key.toNat :: UInt8.ofNat l.length :: l)))
theorem put_on {W : World} {J : JP} {F : Fl} {s : JS} {key : Int} {l : List UInt8} {e : Ending} {w' : World} (h : JAt W J F s) (hon : On F) (ht : Tail F J s) (hp : PutPost W J F s key l e w') :
    (∀ B, B ≤ W.heap.size → B ≤ J.g → B ≤ J.bb → B ≤ J.wb → B ≤ J.jb → Below B W w') ∧ PutOn W J F s key l e w' := by
  have hjk : jck F key = if key < 0 ∨ 32 ≤ key then 1 else 0 := by unfold jck; rw [if_neg (by rw [hon.2]; decide)]
  unfold PutPost at hp
  split at hp
  · rename_i hk
    rw [hjk] at hk hp
    by_cases hr : key < 0 ∨ 32 ≤ key
    · rw [if_pos hr] at hp
      exact ⟨fun B a _ _ _ _ => hp.2.mono a, .inl ⟨1, hp.1, by decide, hp.2, .inl ⟨hr, rfl⟩⟩⟩
    · rw [if_neg hr] at hk; exact absurd rfl hk
  · rename_i hk
    have hr : 0 ≤ key ∧ key < 32 := by
      rw [hjk] at hk
      by_cases hr : key < 0 ∨ 32 ≤ key
      · rw [if_pos hr] at hk; exact absurd (by decide) hk
      · omega
    split at hp
    · rename_i hl
      exact ⟨fun B a _ _ _ _ => hp.2.mono a, .inl ⟨2, hp.1, by decide, hp.2, .inr (.inl ⟨hr, hl, rfl⟩)⟩⟩
    · rename_i hl
      split at hp
      · rename_i hv
        exact ⟨fun B a _ _ _ _ => hp.2.mono a, .inr (.inl ⟨hr, by omega, hp.1, hv, hp.2⟩)⟩
      · rename_i hv
        obtain ⟨w1, b, D', hb1, hV, hT⟩ := hp
        obtain ⟨hB, hT⟩ := turn_on h hb1 hV hon ht hT
        refine ⟨hB, ?_⟩
        rw [seals_len] at hT
        rcases hT with ⟨a1, a2, a3⟩ | ⟨a1, a2, a3, a4, a5⟩ | ⟨a1, a2, a3⟩
        · exact .inl ⟨6, a2, by decide, a3, .inr (.inr (.inl ⟨hr, by omega, hv, a1, rfl⟩))⟩
        · exact .inl ⟨3, a4, by decide, a5, .inr (.inr (.inr ⟨hr, by omega, hv, a1, by omega, a3, rfl⟩))⟩
        · exact .inr (.inr ⟨hr, by omega, a2, hv, a1, a3⟩)
end Go.Proofs.Ytiieianbmldnbaa
