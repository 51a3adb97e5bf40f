/-
  What is written where a flash is on and blank: its bytes.
-/
import Derived.Test.YtiieianbmldnbaaJournalMake
namespace Go.Proofs.Ytiieianbmldnbaa
open Go.RowKit Go.Maps Go.Shelf
set_option maxRecDepth 100000
set_option linter.unusedVariables false
/-- The power is there, and will be. -/
def On (F : Fl) : Prop := F.cut = false ∧ F.down = false
/-- From a to b all bytes are 255. -/
def Blk (F : Fl) (a b : Nat) : Prop := ∀ i, a ≤ i → i < b → F.dat[i]? = some 255
theorem On.sane {F : Fl} (h : On F) : Sane F := fun e => by rw [h.1] at e; cases e
theorem blk_ok {F : Fl} {q : Nat} {b : List UInt8} (h : Blk F q (q + b.length)) : okBits (piece F q b.length) b = true := by
  have e : piece F q b.length = List.replicate b.length 255 := by
    refine List.ext_getElem? fun i => ?_
    unfold piece
    rw [List.getElem?_take, List.getElem?_replicate]
    by_cases hi : i < b.length
    · rw [if_pos hi, if_pos hi, List.getElem?_drop, h (q + i) (by omega) (by omega)]
    · rw [if_neg hi, if_neg hi]
  rw [e]; exact okBits_255 _ _ (Nat.le_refl _)
theorem progBy_on {F : Fl} (h : On F) (q : Nat) (b : List UInt8) : On (progBy F q b) ∧ (progBy F q b).dat = patch F.dat q b ∧ (progBy F q b).sec = F.sec ∧ (progBy F q b).wear = F.wear := by
  refine ⟨⟨h.1, ?_⟩, progBy_dat h.1 q b, rfl, rfl⟩
  show (F.down || gone F b.length) = false
  rw [h.2, gone_nocut h.1]; rfl
theorem pwrote_on {F : Fl} (h : On F) (be si p : Nat) (b : List UInt8) (hp : p + b.length ≤ si) (hok : okBits (piece F (be + p) b.length) b = true) : pwrote F be si (p : Int) b = (progBy F (be + p) b, 0) := by
  have hc : pck F si (p : Int) (b.length : Int) = 0 := by unfold pck; rw [if_neg (by rw [h.2]; decide), if_neg (by omega)]
  unfold pwrote
  rw [if_pos hc]
  unfold wrote
  rw [show ((p : Int)).toNat = p from rfl, if_pos hok, gone_nocut h.1]; rfl
theorem blk_patch {F G : Fl} {q a b : Nat} {l : List UInt8} (hd : G.dat = patch F.dat q l) (hq : q + l.length ≤ F.dat.length) (h : Blk F a b) (hlt : q + l.length ≤ a) : Blk G a b := fun i h1 h2 => by
  rw [hd, patch_get _ _ _ hq, if_neg (by omega)]
  exact h i h1 h2
theorem blk_less {F : Fl} {a b c d : Nat} (h : Blk F a b) (h1 : a ≤ c) (h2 : d ≤ b) : Blk F c d := fun i h3 h4 => h i (by omega) (by omega)
theorem patch_two (d l m : List UInt8) (p : Nat) (h : p + l.length + m.length ≤ d.length) : patch (patch d p l) (p + l.length) m = patch d p (l ++ m) := by
  refine List.ext_getElem? fun i => ?_
  rw [patch_get _ _ _ (by rw [patch_length _ _ _ (by omega)]; omega), patch_get _ _ _ (by omega), patch_get _ _ _ (by rw [List.length_append]; omega), List.length_append]
  by_cases h1 : p + l.length ≤ i ∧ i < p + l.length + m.length
  · rw [if_pos h1, if_pos (by omega), List.getElem?_append_right (by omega)]
    congr 1; omega
  · rw [if_neg h1]
    by_cases h2 : p ≤ i ∧ i < p + l.length
    · rw [if_pos h2, if_pos (by omega), List.getElem?_append_left (by omega)]
    · rw [if_neg h2, if_neg (by omega)]
theorem jwrote_on {F : Fl} (h : On F) (be si p : Nat) (b : List UInt8) (hf : be + si ≤ F.dat.length) (hp : p + b.length + 1 ≤ si) (hb : Blk F (be + p) (be + p + b.length + 1)) :
    ∃ G, jwrote F be si p b = (G, ((p + b.length + 1 : Nat) : Int), 0) ∧ On G ∧ G.dat = patch F.dat (be + p) (b ++ [0]) ∧ G.sec = F.sec ∧ G.wear = F.wear := by
  have h1 := pwrote_on h be si p b (by omega) (blk_ok (blk_less hb (Nat.le_refl _) (by omega)))
  obtain ⟨o1, d1, s1, w1⟩ := progBy_on h (be + p) b
  have hb1 : Blk (progBy F (be + p) b) (be + p + b.length) (be + p + b.length + 1) := blk_patch d1 (by omega) (blk_less hb (by omega) (Nat.le_refl _)) (Nat.le_refl _)
  have h2 := pwrote_on o1 be si (p + b.length) [0] (by simp; omega) (blk_ok (by rw [← Nat.add_assoc]; exact hb1))
  obtain ⟨o2, d2, s2, w2⟩ := progBy_on o1 (be + (p + b.length)) [0]
  refine ⟨progBy (progBy F (be + p) b) (be + (p + b.length)) [0], ?_, o2, ?_, s2.trans s1, w2.trans w1⟩
  · unfold jwrote
    simp only [h1, if_pos]
    rw [h2]
  · rw [d2, d1, ← Nat.add_assoc]
    exact patch_two _ _ _ _ (by simp; omega)
/-- The records of keys, marks and all. -/
def recsOf (V : Int → Option (List UInt8)) (l : List Int) : List UInt8 := l.flatMap fun k => recOf V k ++ [0]
theorem recsOf_length (V : Int → Option (List UInt8)) (l : List Int) : (recsOf V l).length = sumOn V (fun _ => true) l := by
  induction l with
  | nil => rfl
  | cons k r ih =>
    have e2 : sumOn V (fun _ => true) (k :: r) = (7 + ((V k).getD []).length) + sumOn V (fun _ => true) r := rfl
    rw [e2, ← ih]
    show (recsOf V (k :: r)).length = _
    unfold recsOf
    rw [List.flatMap_cons, List.length_append, List.length_append, recOf_length]
    simp; omega
theorem layRecs_on (be si : Nat) (V : Int → Option (List UInt8)) : ∀ (l : List Int) (F : Fl) (p : Nat), On F → be + si ≤ F.dat.length → p + (recsOf V l).length ≤ si → Blk F (be + p) (be + p + (recsOf V l).length) →
    ∃ G, layRecs be si V l F p = (G, p + (recsOf V l).length, 0) ∧ On G ∧ G.dat = patch F.dat (be + p) (recsOf V l) ∧ G.sec = F.sec ∧ G.wear = F.wear
  | [], F, p, h, hf, hp, hb => ⟨F, rfl, h, by
      refine List.ext_getElem? fun i => ?_
      rw [patch_get _ _ _ (by simp [recsOf]; omega), if_neg (by simp [recsOf])], rfl, rfl⟩
  | k :: r, F, p, h, hf, hp, hb => by
    have hl : (recsOf V (k :: r)).length = (recOf V k).length + 1 + (recsOf V r).length := by
      unfold recsOf; rw [List.flatMap_cons, List.length_append, List.length_append]; rfl
    obtain ⟨G, e1, o1, d1, s1, w1⟩ := jwrote_on h be si p (recOf V k) hf (by omega) (blk_less hb (Nat.le_refl _) (by omega))
    have hlen1 : G.dat.length = F.dat.length := by rw [d1, patch_length _ _ _ (by simp; omega)]
    have hb1 : Blk G (be + (p + (recOf V k).length + 1)) (be + (p + (recOf V k).length + 1) + (recsOf V r).length) :=
      blk_patch d1 (by simp; omega) (blk_less hb (by omega) (by omega)) (by simp; omega)
    obtain ⟨K, e2, o2, d2, s2, w2⟩ := layRecs_on be si V r G (p + (recOf V k).length + 1) o1 (by omega) (by omega) hb1
    refine ⟨K, ?_, o2, ?_, s2.trans s1, w2.trans w1⟩
    · rw [layRecs, e1, if_pos rfl, e2, hl]
      congr 2; omega
    · rw [d2, d1]
      have := patch_two F.dat (recOf V k ++ [0]) (recsOf V r) (be + p) (by simp; omega)
      rw [show be + (p + (recOf V k).length + 1) = be + p + (recOf V k ++ [0]).length by simp; omega, this]
      rfl
/-- The bytes of a group that has just been laid, up to its end. -/
def headBytes (ep : Int) (V : Int → Option (List UInt8)) : List UInt8 := 0 :: p32 ep ++ [255, 255, 255] ++ recsOf V (keysOf V)
theorem headBytes_length (ep : Int) (V : Int → Option (List UInt8)) : (headBytes ep V).length = sizeAll V := by
  unfold headBytes sizeAll
  rw [← recsOf_length]
  simp [p32]; omega
theorem laid_on (be si : Nat) (V : Int → Option (List UInt8)) (ep : Int) (F : Fl) (h : On F) (hf : be + si ≤ F.dat.length) (hp : sizeAll V ≤ si) (hb : Blk F be (be + si)) :
    ∃ G, laid be si V ep F = (G, sizeAll V, 0) ∧ On G ∧ G.dat = patch F.dat be (headBytes ep V) ∧ G.sec = F.sec ∧ G.wear = F.wear := by
  have hs : sizeAll V = 8 + (recsOf V (keysOf V)).length := by unfold sizeAll; rw [recsOf_length]
  obtain ⟨G, e1, o1, d1, s1, w1⟩ := layRecs_on be si V (keysOf V) F 8 h hf (by omega) (blk_less hb (by omega) (by omega))
  have hl1 : G.dat.length = F.dat.length := by rw [d1, patch_length _ _ _ (by omega)]
  have q1 : ∀ i, be ≤ i → i < be + 8 → G.dat[i]? = some 255 := fun i h1 h2 => by
    rw [d1, patch_get _ _ _ (by omega), if_neg (by omega)]
    exact hb i h1 (by omega)
  have p1 := pwrote_on o1 be si 1 (p32 ep) (by simp [p32]; omega) (blk_ok (fun i h1 h2 => q1 i (by omega) (by simp [p32] at h2; omega)))
  obtain ⟨o2, d2, s2, w2⟩ := progBy_on o1 (be + 1) (p32 ep)
  have hl2 : (progBy G (be + 1) (p32 ep)).dat.length = F.dat.length := by rw [d2, patch_length _ _ _ (by simp [p32]; omega), hl1]
  have q2 : Blk (progBy G (be + 1) (p32 ep)) (be + 0) (be + 0 + [(0 : UInt8)].length) := fun i h1 h2 => by
    rw [d2, patch_get _ _ _ (by simp [p32]; omega), if_neg (by simp at h2; omega)]
    exact q1 i (by omega) (by simp at h2; omega)
  have p2 := pwrote_on o2 be si 0 [0] (by simp; omega) (blk_ok q2)
  obtain ⟨o3, d3, s3, w3⟩ := progBy_on o2 (be + 0) [0]
  refine ⟨_, ?_, o3, ?_, s3.trans (s2.trans s1), w3.trans (w2.trans w1)⟩
  · have p1' : pwrote G be si (1 : Int) (p32 ep) = (progBy G (be + 1) (p32 ep), 0) := p1
    have p2' : pwrote (progBy G (be + 1) (p32 ep)) be si (0 : Int) [0] = (progBy (progBy G (be + 1) (p32 ep)) (be + 0) [0], 0) := p2
    unfold laid layHead
    simp only [e1, p1', p2', hs, if_true]
  · rw [d3, d2, d1]
    refine List.ext_getElem? fun i => ?_
    have z1 : be + 8 + (recsOf V (keysOf V)).length ≤ F.dat.length := by omega
    have z2 : (patch F.dat (be + 8) (recsOf V (keysOf V))).length = F.dat.length := patch_length _ _ _ z1
    have z3 : (p32 ep).length = 4 := rfl
    have z4 : (patch (patch F.dat (be + 8) (recsOf V (keysOf V))) (be + 1) (p32 ep)).length = F.dat.length := by rw [patch_length _ _ _ (by omega), z2]
    rw [patch_get _ _ _ (by simp; omega), patch_get _ _ _ (by omega), patch_get _ _ _ z1, patch_get _ _ _ (by rw [headBytes_length]; omega), headBytes_length]
    by_cases c0 : i = be
    · subst c0
      rw [if_pos (by simp), if_pos (by omega)]
      simp [headBytes]
    · rw [if_neg (by simp; omega)]
      by_cases c1 : be + 1 ≤ i ∧ i < be + 5
      · rw [if_pos (by omega), if_pos (by omega)]
        obtain ⟨j, rfl⟩ : ∃ j, i = be + 1 + j := ⟨i - (be + 1), by omega⟩
        have hj : j < 4 := by omega
        rw [show be + 1 + j - (be + 1) = j by omega, show be + 1 + j - be = j + 1 by omega]
        unfold headBytes
        rw [List.append_assoc, List.cons_append, List.getElem?_cons_succ, List.getElem?_append_left (by omega)]
      · rw [if_neg (by omega)]
        by_cases c2 : be + 5 ≤ i ∧ i < be + 8
        · rw [if_neg (by omega), if_pos (by omega), hb i (by omega) (by omega)]
          obtain ⟨j, rfl⟩ : ∃ j, i = be + 5 + j := ⟨i - (be + 5), by omega⟩
          have hj : j = 0 ∨ j = 1 ∨ j = 2 := by omega
          rw [show be + 5 + j - be = j + 5 by omega]
          unfold headBytes p32
          rcases hj with rfl | rfl | rfl <;> rfl
        · by_cases c3 : be + 8 ≤ i ∧ i < be + 8 + (recsOf V (keysOf V)).length
          · rw [if_pos c3, if_pos (by omega)]
            obtain ⟨j, rfl⟩ : ∃ j, i = be + 8 + j := ⟨i - (be + 8), by omega⟩
            rw [show be + 8 + j - (be + 8) = j by omega, show be + 8 + j - be = j + 8 by omega]
            unfold headBytes p32
            rfl
          · rw [if_neg c3, if_neg (by omega)]
end Go.Proofs.Ytiieianbmldnbaa
