/-
  What is written where the power may go: a prefix of the bytes.
-/
/-
  What is taken up rests on the bytes up to where the last record ends; a record that was cut is none.
-/
/-
  A journal whose power may go: its steps, and what opens it again.
-/
/-
  A journal that is opened again where the power may go.
-/
import Derived.Test.YtpdlipkmojhnnaaJournalStep
import Derived.Test.YtpdlipkmojhnnaaJournalSettled
namespace Go.Proofs.Ytpdlipkmojhnnaa
open Go.RowKit Go.Maps Go.Shelf
set_option linter.unusedVariables false
set_option maxRecDepth 100000
/-- The power is there; it may go. -/
def Up (F : Fl) : Prop := F.down = false ∧ Sane F
theorem progBy_up {F : Fl} (h : Up F) (q : Nat) (b : List UInt8) : ∃ r, (progBy F q b).dat = patch F.dat q (b.take r) ∧ (progBy F q b).sec = F.sec ∧ (progBy F q b).wear = F.wear ∧ Sane (progBy F q b) ∧ ((gone F b.length = false ∧ r = b.length ∧ (progBy F q b).down = false) ∨ (gone F b.length = true ∧ r < b.length ∧ (progBy F q b).down = true)) := by
  refine ⟨lasts F b.length, rfl, rfl, rfl, prog_sane' h.2 q b, ?_⟩
  have hd : (progBy F q b).down = (F.down || gone F b.length) := rfl
  rw [hd, h.1, Bool.false_or]
  by_cases hg : F.cut = true ∧ F.rest < (b.length : Int)
  · right
    have hr := h.2 hg.1
    have hgo : gone F b.length = true := decide_eq_true hg
    refine ⟨hgo, ?_, hgo⟩
    unfold lasts
    rw [if_pos hg]; have := hg.2; omega
  · left
    have hgo : gone F b.length = false := decide_eq_false hg
    refine ⟨hgo, ?_, hgo⟩
    unfold lasts
    rw [if_neg hg]
theorem pwrote_up {F : Fl} (h : Up F) (be si p : Nat) (b : List UInt8) (hp : p + b.length ≤ si) (hok : okBits (piece F (be + p) b.length) b = true) :
    ∃ G ec r, pwrote F be si (p : Int) b = (G, ec) ∧ G.dat = patch F.dat (be + p) (b.take r) ∧ G.sec = F.sec ∧ G.wear = F.wear ∧ Sane G ∧ ((ec = 0 ∧ r = b.length ∧ G.down = false) ∨ (ec = 30 ∧ r < b.length ∧ G.down = true)) := by
  have hc : pck F si (p : Int) (b.length : Int) = 0 := by unfold pck; rw [if_neg (by rw [h.1]; decide), if_neg (by omega)]
  obtain ⟨r, d, s, w, sn, hcase⟩ := progBy_up h (be + p) b
  refine ⟨progBy F (be + p) b, if gone F b.length = true then 30 else 0, r, ?_, d, s, w, sn, ?_⟩
  · unfold pwrote
    rw [if_pos hc]
    unfold wrote
    rw [show ((p : Int)).toNat = p from rfl, if_pos hok]
  · rcases hcase with ⟨hg, hr, hd⟩ | ⟨hg, hr, hd⟩
    · exact .inl ⟨by rw [hg]; rfl, hr, hd⟩
    · exact .inr ⟨by rw [hg]; rfl, hr, hd⟩
theorem jwrote_up {F : Fl} (h : Up F) (be si p : Nat) (b : List UInt8) (hf : be + si ≤ F.dat.length) (hp : p + b.length + 1 ≤ si) (hb : Blk F (be + p) (be + p + b.length + 1)) :
    ∃ G en ec r, jwrote F be si p b = (G, en, ec) ∧ G.dat = patch F.dat (be + p) ((b ++ [0]).take r) ∧ G.sec = F.sec ∧ G.wear = F.wear ∧ Sane G ∧ ((ec = 0 ∧ en = ((p + b.length + 1 : Nat) : Int) ∧ r = b.length + 1 ∧ G.down = false) ∨ (ec = 30 ∧ r ≤ b.length ∧ G.down = true)) := by
  obtain ⟨G, ec, r, e1, d1, s1, w1, n1, c1⟩ := pwrote_up h be si p b (by omega) (blk_ok (blk_less hb (Nat.le_refl _) (by omega)))
  rcases c1 with ⟨rfl, rfl, u1⟩ | ⟨rfl, hr, u1⟩
  · rw [List.take_of_length_le (Nat.le_refl _)] at d1
    have hb1 : Blk G (be + p + b.length) (be + p + b.length + 1) := blk_patch d1 (by omega) (blk_less hb (by omega) (Nat.le_refl _)) (Nat.le_refl _)
    obtain ⟨K, ec2, r2, e2, d2, s2, w2, n2, c2⟩ := pwrote_up (F := G) ⟨u1, n1⟩ be si (p + b.length) [0] (by simp; omega) (blk_ok (by rw [← Nat.add_assoc]; exact hb1))
    have hj : jwrote F be si p b = (K, ((p + b.length + 1 : Nat) : Int), ec2) := by
      unfold jwrote
      simp only [e1, if_pos]
      rw [e2]
    rcases c2 with ⟨rfl, rfl, u2⟩ | ⟨rfl, hr2, u2⟩
    · refine ⟨K, _, 0, b.length + 1, hj, ?_, s2.trans s1, w2.trans w1, n2, .inl ⟨rfl, rfl, rfl, u2⟩⟩
      rw [d2, d1, ← Nat.add_assoc, List.take_of_length_le (Nat.le_refl _), List.take_of_length_le (by simp)]
      exact patch_two _ _ _ _ (by simp; omega)
    · refine ⟨K, _, 30, b.length, hj, ?_, s2.trans s1, w2.trans w1, n2, .inr ⟨rfl, Nat.le_refl _, u2⟩⟩
      have hr0 : r2 = 0 := by simp at hr2; exact hr2
      subst hr0
      rw [d2, d1, ← Nat.add_assoc, List.take_zero, patch_two _ _ _ _ (by simp; omega), List.append_nil, List.take_left']
      rfl
  · refine ⟨G, 0, 30, r, ?_, ?_, s1, w1, n1, .inr ⟨rfl, by omega, u1⟩⟩
    · unfold jwrote
      simp only [e1]
      rw [if_neg (by decide)]
    · rw [d1, List.take_append_of_le_length (by omega)]
theorem patch_nil (d : List UInt8) (p : Nat) : patch d p [] = d := by
  unfold patch; simp
theorem take_more (a b : List UInt8) (q : Nat) : (a ++ b).take (a.length + q) = a ++ b.take q := by
  rw [List.take_append, List.take_of_length_le (by omega), Nat.add_sub_cancel_left]
theorem layRecs_up (be si : Nat) (V : Int → Option (List UInt8)) : ∀ (l : List Int) (F : Fl) (p : Nat), Up F → be + si ≤ F.dat.length → p + (recsOf V l).length ≤ si → Blk F (be + p) (be + p + (recsOf V l).length) →
    ∃ G en ec r, layRecs be si V l F p = (G, en, ec) ∧ G.dat = patch F.dat (be + p) ((recsOf V l).take r) ∧ G.sec = F.sec ∧ G.wear = F.wear ∧ Sane G ∧ ((ec = 0 ∧ en = p + (recsOf V l).length ∧ r = (recsOf V l).length ∧ G.down = false) ∨ (ec = 30 ∧ r < (recsOf V l).length ∧ G.down = true))
  | [], F, p, h, hf, hp, hb => ⟨F, p, 0, 0, rfl, by rw [List.take_zero, patch_nil], rfl, rfl, h.2, .inl ⟨rfl, rfl, rfl, h.1⟩⟩
  | k :: r, F, p, h, hf, hp, hb => by
    have hrec : recsOf V (k :: r) = (recOf V k ++ [0]) ++ recsOf V r := by unfold recsOf; rw [List.flatMap_cons]
    have hl : (recsOf V (k :: r)).length = (recOf V k).length + 1 + (recsOf V r).length := by
      rw [hrec, List.length_append, List.length_append]; rfl
    obtain ⟨G, en, ec, q, e1, d1, s1, w1, n1, c1⟩ := jwrote_up h be si p (recOf V k) hf (by omega) (blk_less hb (Nat.le_refl _) (by omega))
    rcases c1 with ⟨rfl, rfl, rfl, u1⟩ | ⟨rfl, hq, u1⟩
    · rw [List.take_of_length_le (by simp)] at d1
      have hlen1 : G.dat.length = F.dat.length := by rw [d1, patch_length _ _ _ (by simp; omega)]
      have hb1 : Blk G (be + (p + (recOf V k).length + 1)) (be + (p + (recOf V k).length + 1) + (recsOf V r).length) :=
        blk_patch d1 (by simp; omega) (blk_less hb (by omega) (by omega)) (by simp; omega)
      obtain ⟨K, en2, ec2, q2, e2, d2, s2, w2, n2, c2⟩ := layRecs_up be si V r G (p + (recOf V k).length + 1) ⟨u1, n1⟩ (by omega) (by omega) hb1
      refine ⟨K, en2, ec2, (recOf V k).length + 1 + q2, ?_, ?_, s2.trans s1, w2.trans w1, n2, ?_⟩
      · rw [layRecs, e1, if_pos rfl, e2]
      · have hq2 : q2 ≤ (recsOf V r).length := by rcases c2 with ⟨_, _, h, _⟩ | ⟨_, h, _⟩ <;> omega
        have ht : (recsOf V (k :: r)).take ((recOf V k).length + 1 + q2) = (recOf V k ++ [0]) ++ (recsOf V r).take q2 := by
          rw [hrec, show (recOf V k).length + 1 + q2 = (recOf V k ++ [0]).length + q2 by simp]
          exact take_more _ _ _
        rw [ht, d2, d1]
        have := patch_two F.dat (recOf V k ++ [0]) ((recsOf V r).take q2) (be + p) (by rw [List.length_take]; simp; omega)
        rw [show be + (p + (recOf V k).length + 1) = be + p + (recOf V k ++ [0]).length by simp; omega, this]
      · rcases c2 with ⟨h1, h2, h3, h4⟩ | ⟨h1, h2, h3⟩
        · exact .inl ⟨h1, by omega, by omega, h4⟩
        · exact .inr ⟨h1, by omega, h3⟩
    · refine ⟨G, p, 30, q, ?_, ?_, s1, w1, n1, .inr ⟨rfl, by omega, u1⟩⟩
      · rw [layRecs, e1, if_neg (show ¬ ((30 : Int) = 0) by decide)]
      · have hle : q ≤ (recOf V k ++ [0]).length := by simp; omega
        rw [d1, hrec, List.take_append_of_le_length hle]
/-- A group laid: whole, or without its mark. -/
theorem laid_up (be si : Nat) (V : Int → Option (List UInt8)) (ep : Int) (F : Fl) (h : Up F) (hf : be + si ≤ F.dat.length) (hp : sizeAll V ≤ si) (hb : Blk F be (be + si)) :
    ∃ G en ec, laid be si V ep F = (G, en, ec) ∧ G.sec = F.sec ∧ G.wear = F.wear ∧ Sane G ∧ ((ec = 0 ∧ en = sizeAll V ∧ G.down = false ∧ G.dat = patch F.dat be (headBytes ep V)) ∨ (ec = 30 ∧ G.down = true ∧ G.dat.length = F.dat.length ∧ G.dat[be]? = some 255 ∧ ∀ i, ¬ (be ≤ i ∧ i < be + si) → G.dat[i]? = F.dat[i]?)) := by
  have hs : sizeAll V = 8 + (recsOf V (keysOf V)).length := by unfold sizeAll; rw [recsOf_length]
  obtain ⟨G, en, ec, q, e1, d1, s1, w1, n1, c1⟩ := layRecs_up be si V (keysOf V) F 8 h hf (by omega) (blk_less hb (by omega) (by omega))
  obtain ⟨R, hR⟩ : ∃ R, (recsOf V (keysOf V)).take q = R := ⟨_, rfl⟩
  rw [hR] at d1
  have hRl : R.length ≤ (recsOf V (keysOf V)).length := by rw [← hR, List.length_take]; omega
  have hl1 : G.dat.length = F.dat.length := by rw [d1, patch_length _ _ _ (by omega)]
  have q1 : ∀ i, be ≤ i → i < be + 8 → G.dat[i]? = some 255 := fun i h1 h2 => by
    rw [d1, patch_get _ _ _ (by omega), if_neg (by omega)]
    exact hb i h1 (by omega)
  have x1 : ∀ i, ¬ (be ≤ i ∧ i < be + si) → G.dat[i]? = F.dat[i]? := fun i hi => by
    rw [d1, patch_get _ _ _ (by omega), if_neg (by omega)]
  rcases c1 with ⟨rfl, rfl, rfl, u1⟩ | ⟨rfl, _, u1⟩
  · have z3 : (p32 ep).length = 4 := rfl
    obtain ⟨K, ec2, r2, e2, d2, s2, w2, n2, c2⟩ := pwrote_up (F := G) ⟨u1, n1⟩ be si 1 (p32 ep) (by omega) (blk_ok (fun i h1 h2 => q1 i (by omega) (by omega)))
    have e2' : pwrote G be si (1 : Int) (p32 ep) = (K, ec2) := e2
    have hr2 : r2 ≤ 4 := by rcases c2 with ⟨_, h, _⟩ | ⟨_, h, _⟩ <;> omega
    have hl2 : K.dat.length = F.dat.length := by rw [d2, patch_length _ _ _ (by rw [List.length_take]; omega), hl1]
    have k1 : K.dat[be]? = some 255 := by
      rw [d2, patch_get _ _ _ (by rw [List.length_take]; omega), if_neg (by omega)]
      exact q1 be (by omega) (by omega)
    have x2 : ∀ i, ¬ (be ≤ i ∧ i < be + si) → K.dat[i]? = F.dat[i]? := fun i hi => by
      rw [d2, patch_get _ _ _ (by rw [List.length_take]; omega), if_neg (by rw [List.length_take]; omega)]
      exact x1 i hi
    rcases c2 with ⟨rfl, rfl, u2⟩ | ⟨rfl, _, u2⟩
    · rw [List.take_of_length_le (Nat.le_refl _)] at d2
      have hb3 : Blk K (be + 0) (be + 0 + [(0 : UInt8)].length) := fun i h1 h2 => by
        have : i = be := by simp at h2; omega
        subst this; exact k1
      obtain ⟨M, ec3, r3, e3, d3, s3, w3, n3, c3⟩ := pwrote_up (F := K) ⟨u2, n2⟩ be si 0 [0] (by simp; omega) (blk_ok hb3)
      have e3' : pwrote K be si (0 : Int) [0] = (M, ec3) := e3
      have hlay : laid be si V ep F = (M, 8 + (recsOf V (keysOf V)).length, ec3) := by
        unfold laid layHead
        simp only [e1, e2', e3', if_true]
      refine ⟨M, _, ec3, hlay, s3.trans (s2.trans s1), w3.trans (w2.trans w1), n3, ?_⟩
      rcases c3 with ⟨rfl, rfl, u3⟩ | ⟨rfl, hr3, u3⟩
      · refine .inl ⟨rfl, hs.symm, u3, ?_⟩
        rw [List.take_of_length_le (Nat.le_refl _)] at d3
        rw [List.take_of_length_le (Nat.le_refl _)] at hR
        subst hR
        rw [d3, d2, d1]
        refine List.ext_getElem? fun i => ?_
        have z1 : be + 8 + (recsOf V (keysOf V)).length ≤ F.dat.length := by omega
        have z2 : (patch F.dat (be + 8) (recsOf V (keysOf V))).length = F.dat.length := patch_length _ _ _ z1
        have z3 : (p32 ep).length = 4 := rfl
        have z4 : (patch (patch F.dat (be + 8) (recsOf V (keysOf V))) (be + 1) (p32 ep)).length = F.dat.length := by rw [patch_length _ _ _ (by omega), z2]
        rw [patch_get _ _ _ (by simp; omega), patch_get _ _ _ (by omega), patch_get _ _ _ z1, patch_get _ _ _ (by rw [headBytes_length]; omega), headBytes_length]
        by_cases c0 : i = be
        · subst c0
          rw [if_pos (by simp), if_pos (by omega)]
          simp [headBytes]
        · rw [if_neg (by simp; omega)]
          by_cases c1 : be + 1 ≤ i ∧ i < be + 5
          · rw [if_pos (by omega), if_pos (by omega)]
            obtain ⟨j, rfl⟩ : ∃ j, i = be + 1 + j := ⟨i - (be + 1), by omega⟩
            have hj : j < 4 := by omega
            rw [show be + 1 + j - (be + 1) = j by omega, show be + 1 + j - be = j + 1 by omega]
            unfold headBytes
            rw [List.append_assoc, List.cons_append, List.getElem?_cons_succ, List.getElem?_append_left (by omega)]
          · rw [if_neg (by omega)]
            by_cases c2 : be + 5 ≤ i ∧ i < be + 8
            · rw [if_neg (by omega), if_pos (by omega), hb i (by omega) (by omega)]
              obtain ⟨j, rfl⟩ : ∃ j, i = be + 5 + j := ⟨i - (be + 5), by omega⟩
              have hj : j = 0 ∨ j = 1 ∨ j = 2 := by omega
              rw [show be + 5 + j - be = j + 5 by omega]
              unfold headBytes p32
              rcases hj with rfl | rfl | rfl <;> rfl
            · by_cases c3 : be + 8 ≤ i ∧ i < be + 8 + (recsOf V (keysOf V)).length
              · rw [if_pos c3, if_pos (by omega)]
                obtain ⟨j, rfl⟩ : ∃ j, i = be + 8 + j := ⟨i - (be + 8), by omega⟩
                rw [show be + 8 + j - (be + 8) = j by omega, show be + 8 + j - be = j + 8 by omega]
                unfold headBytes p32
                rfl
              · rw [if_neg c3, if_neg (by omega)]
      · have hr0 : r3 = 0 := by simp at hr3; exact hr3
        subst hr0
        rw [List.take_zero, patch_nil] at d3
        exact .inr ⟨rfl, u3, by rw [d3, hl2], by rw [d3]; exact k1, fun i hi => by rw [d3]; exact x2 i hi⟩
    · refine ⟨K, 8 + (recsOf V (keysOf V)).length, 30, ?_, s2.trans s1, w2.trans w1, n2, .inr ⟨rfl, u2, hl2, k1, x2⟩⟩
      unfold laid layHead
      simp only [e1, e2', if_true]
      rw [if_neg (by decide)]
  · refine ⟨G, en, 30, ?_, s1, w1, n1, .inr ⟨rfl, u1, hl1, q1 be (by omega) (by omega), x1⟩⟩
    unfold laid
    simp only [e1]
    rw [if_neg (by decide)]
/-- What a group's bytes are, behind its being laid, and the power is still there. -/
structure LaidTo (F G : Fl) (be si : Nat) (ep : Int) (V : Int → Option (List UInt8)) : Prop where
  up : Up G
  len : G.dat.length = F.dat.length
  out : ∀ i, ¬ (be ≤ i ∧ i < be + si) → G.dat[i]? = F.dat[i]?
  head : ∀ i, i < sizeAll V → G.dat[be + i]? = (headBytes ep V)[i]?
  rest : Blk G (be + sizeAll V) (be + si)
/-- A group laid where the power may go. -/
theorem lay_up {W : World} {J : JP} {F : Fl} {s : JS} {pn : Option Nat} {D : DataW Value} {V : Int → Option (List UInt8)} {gi : Nat} {ep : Int} {e : Ending} {w' : World} (h : JAt W J F s) (hV : Vals W J.lo pn D V) (hup : Up F) (hroom : sizeAll V ≤ s.size) (hgi : gi < 2) (h0 : 0 ≤ ep) (h1 : ep < 4294967296)
    (hp : LayPost W J.jb gi J.g J.bb J.wb (J.fi gi) (J.be gi) (J.si gi) (J.co gi) F pn V ep e w') :
    (e = .returned (.int .i64 0) ∧ ∃ G, JAt w' J G { s with cnt := gi, ep := ep, en := sizeAll V, pv := pn, D := D, V := V } ∧ LaidTo F G (J.be gi) (J.si gi) ep V) ∨
    (e = .returned (.int .i64 30) ∧ ∃ G, FlashAt w' J.g J.bb J.wb G ∧ But3 W.heap.size J.g J.bb J.wb W w' ∧ Within (J.be gi) (J.si gi) F G ∧ Sane G ∧ G.down = true ∧ (G.dat[J.be gi]? = some 255 ∨ G.dat = F.dat)) := by
  obtain ⟨ec0, G0, F', p', ec, ⟨wi, sn, on, cl, lf⟩, hl, he, hf, w1, hb, hw⟩ := hp
  have hok := h.ok gi hgi
  have hft := hok.fits h.fl.ok
  have hsi := h.size gi hgi
  by_cases hec : ec0 = 0
  · have cl := cl hec
    have hblk : Blk G0 (J.be gi) (J.be gi + J.si gi) := fun i a b => cl.all i a (by rw [hok.si] at b; exact b)
    obtain ⟨G, en, ec', e1, s1, w1', n1, hcase⟩ := laid_up (J.be gi) (J.si gi) V ep G0 ⟨lf.up hec hup.1, sn⟩ (by rw [wi.len]; exact hft) (by omega) hblk
    rw [if_pos hec, e1] at hl
    have e2 : F' = G := congrArg (·.1) hl
    have e3 : p' = en := congrArg (·.2.1) hl
    have e4 : ec = ec' := congrArg (·.2.2) hl
    subst e2 e3 e4
    rcases hcase with ⟨rfl, rfl, u1, d1⟩ | ⟨rfl, u1, l1, f1, o1⟩
    · left
      rw [if_pos rfl] at hw
      subst hw
      refine ⟨he, F', ?_, ⟨u1, n1⟩, ?_, fun i hi => ?_, fun i hi => ?_, fun i a b => ?_⟩
      · exact h.laid_ pn D V hV hroom gi hgi ep h0 h1 G0 wi sn (sizeAll V) e1.symm hb hf
      · rw [d1, patch_length _ _ _ (by rw [headBytes_length, wi.len]; omega), wi.len]
      · rw [d1, patch_get _ _ _ (by rw [headBytes_length, wi.len]; omega), headBytes_length, if_neg (by omega)]
        exact wi.dat i hi
      · rw [d1, patch_get _ _ _ (by rw [headBytes_length, wi.len]; omega), headBytes_length, if_pos (by omega)]
        congr 1; omega
      · rw [d1, patch_get _ _ _ (by rw [headBytes_length, wi.len]; omega), headBytes_length, if_neg (by omega)]
        exact hblk i (by omega) b
    · right
      rw [if_neg (by decide)] at hw
      subst hw
      exact ⟨he, F', hf, hb, ⟨by rw [l1, wi.len], by rw [s1, wi.sec], by rw [w1', wi.wear], fun i hi => (o1 i hi).trans (wi.dat i hi)⟩, n1, u1, .inl f1⟩
  · right
    obtain ⟨h30, hd⟩ := lf.gone hec
    rw [if_neg hec] at hl
    have e2 : F' = G0 := congrArg (·.1) hl
    have e4 : ec = ec0 := congrArg (·.2.2) hl
    subst e2 e4
    rw [if_neg hec] at hw
    subst hw
    exact ⟨by rw [he, h30], F', hf, hb, wi, sn, hd, lf.first⟩
/-- A flash that was cut in a step: in the record, or while all was moved. -/
def CutTo (F G : Fl) (J : JP) (s : JS) (rec : List UInt8) : Prop :=
  G.down = true ∧ Sane G ∧ G.sec = F.sec ∧ G.wear.length = F.wear.length ∧ ((s.en + rec.length + 1 ≤ s.size ∧ ∃ r, r ≤ rec.length ∧ G.dat = patch F.dat (J.be s.cnt + s.en) ((rec ++ [0]).take r)) ∨ (Within (J.be (1 - s.cnt)) (J.si (1 - s.cnt)) F G ∧ (G.dat[J.be (1 - s.cnt)]? = some 255 ∨ G.dat = F.dat)))
/-- What a step that went well leaves: the record behind the last one, or all moved. -/
def SteppedUp (w' : World) (J : JP) (F : Fl) (s : JS) (V : Int → Option (List UInt8)) (rec : List UInt8) : Prop :=
  (s.en + rec.length + 1 ≤ s.size ∧ ∃ G pn D, JAt w' J G { s with en := s.en + rec.length + 1, pv := pn, D := D, V := V } ∧ Up G ∧ G.dat = patch F.dat (J.be s.cnt + s.en) (rec ++ [0])) ∨
  (s.size < s.en + rec.length + 1 ∧ s.ep ≠ 4294967295 ∧ ∃ G pn D, JAt w' J G { s with cnt := 1 - s.cnt, ep := s.ep + 1, en := sizeAll V, pv := pn, D := D, V := V } ∧ LaidTo F G (J.be (1 - s.cnt)) (J.si (1 - s.cnt)) (s.ep + 1) V)
theorem turn_up {W W1 : World} {J : JP} {F : Fl} {s : JS} {b : Nat} {D : DataW Value} {V : Int → Option (List UInt8)} {rec : List UInt8} {e : Ending} {w' : World} (h : JAt W J F s) (hb : Below W.heap.size W W1) (hV : Vals W1 J.lo (some b) D V) (hup : Up F) (ht : Tail F J s)
    (hp : TurnPost W1 J F s (some b) V rec e w') : (∀ B, B ≤ W.heap.size → B ≤ J.g → B ≤ J.bb → B ≤ J.wb → B ≤ J.jb → Below B W w') ∧
      ((s.size < sizeAll V ∧ e = .returned (.int .i64 6) ∧ Below W.heap.size W w') ∨ (sizeAll V ≤ s.size ∧ s.size < s.en + rec.length + 1 ∧ s.ep = 4294967295 ∧ e = .returned (.int .i64 3) ∧ Below W.heap.size W w') ∨ (sizeAll V ≤ s.size ∧ e = .returned (.int .i64 0) ∧ SteppedUp w' J F s V rec) ∨
        (sizeAll V ≤ s.size ∧ e = .returned (.int .i64 30) ∧ ∃ G, FlashAt w' J.g J.bb J.wb G ∧ But3 W.heap.size J.g J.bb J.wb W w' ∧ CutTo F G J s rec)) := by
  have h1 := h.below hb
  have hs := hb.size
  unfold TurnPost at hp
  split at hp
  · rename_i hf
    obtain ⟨he, hb2⟩ := hp
    have hb3 := hb.trans (hb2.mono hs)
    exact ⟨fun B a _ _ _ _ => hb3.mono a, .inl ⟨hf, he, hb3⟩⟩
  · rename_i hf
    split at hp
    · rename_i hr
      obtain ⟨w1, hb1, hp⟩ := hp
      have hb2 := hb.trans (hb1.mono hs)
      rcases hp with ⟨hep, he, rfl⟩ | ⟨hep, hl⟩
      · exact ⟨fun B a _ _ _ _ => hb2.mono a, .inr (.inl ⟨by omega, by omega, hep, he, hb2⟩)⟩
      · have hbd : Below W1.heap.size W1 w1.drew := hb1.trans ((below_drew w1).mono hb1.size)
        have hj := h1.below hbd
        have hv := hV.below hbd
        have he4 := h.ep
        refine ⟨fun B a b c d f => (hb.trans (hbd.mono hs)).mono a |>.trans (hl.below (Nat.le_trans a (Nat.le_trans hs hbd.size)) b c d f), ?_⟩
        rcases lay_up hj hv hup (by omega) (by omega) (by omega) (by omega) hl with ⟨he, G, hG, hL⟩ | ⟨he, G, hG, hb3, wi, sn, dn, hfi⟩
        · exact .inr (.inr (.inl ⟨by omega, he, .inr ⟨by omega, hep, G, _, _, hG, hL⟩⟩))
        · exact .inr (.inr (.inr ⟨by omega, he, G, hG, (But3.below (hb.trans (hbd.mono hs))).trans hb3 (Nat.le_trans hs hbd.size), dn, sn, wi.sec, wi.wear, .inr ⟨wi, hfi⟩⟩))
    · rename_i hr
      obtain ⟨F', en', ec, w1, hj, he, hf', hbt, hw⟩ := hp
      have hft := (h.ok s.cnt h.cnt).fits h.fl.ok
      have hsi := h.size s.cnt h.cnt
      obtain ⟨G, en2, ec2, r, e1, d1, s1, w1', n1, hcase⟩ := jwrote_up hup (J.be s.cnt) (J.si s.cnt) s.en rec hft (by omega) (blk_less ht (Nat.le_refl _) (by omega))
      rw [e1] at hj
      have q1 : G = F' := congrArg (·.1) hj
      have q2 : en2 = en' := congrArg (·.2.1) hj
      have q3 : ec2 = ec := congrArg (·.2.2) hj
      subst q1 q2 q3
      rcases hcase with ⟨rfl, rfl, rfl, u1⟩ | ⟨rfl, hrl, u1⟩
      · rw [if_pos rfl] at hw
        subst hw
        rw [List.take_of_length_le (by simp)] at d1
        exact ⟨fun B a b c d f => (hb.mono a).trans (below_cells (hbt.toBelow (Nat.le_trans a hs) b c d) f _ 5), .inr (.inr (.inl ⟨by omega, he, .inl ⟨by omega, G, _, _, h1.wrote (some _) D V hV rec (by omega) _ e1 hbt hf', ⟨u1, n1⟩, d1⟩⟩))⟩
      · rw [if_neg (by decide)] at hw
        subst hw
        exact ⟨fun B a b c d f => (hb.mono a).trans (hbt.toBelow (Nat.le_trans a hs) b c d), .inr (.inr (.inr ⟨by omega, he, G, hf', (But3.below hb).trans hbt hs, u1, n1, s1, by rw [w1'], .inl ⟨by omega, r, hrl, d1⟩⟩))⟩
theorem take_getD {r r' : List UInt8} {n i : Nat} (hs : r'.take n = r.take n) (hi : i < n) : r'.getD i 0 = r.getD i 0 := by
  have h1 : (r'.take n)[i]? = r'[i]? := by rw [List.getElem?_take, if_pos hi]
  have h2 : (r.take n)[i]? = r[i]? := by rw [List.getElem?_take, if_pos hi]
  rw [List.getD_eq_getElem?_getD, List.getD_eq_getElem?_getD, ← h1, ← h2, hs]
theorem recLen_same {r r' : List UInt8} (h : recLen r ≠ 0) (hl : recLen r ≤ r'.length) (hs : r'.take (recLen r) = r.take (recLen r)) : recLen r' = recLen r ∧ ∀ V, stepV V r' = stepV V r := by
  obtain ⟨h1, h2, h3, h4⟩ := recLen_few h
  have hn := h
  unfold recLen at hn
  split at hn
  · exact absurd rfl hn
  · split at hn
    · exact absurd rfl hn
    · split at hn
      · exact absurd rfl hn
      · rename_i a1 a2 a3
        have g0 := take_getD hs (i := 0) (by omega)
        have g1 := take_getD hs (i := 1) (by omega)
        have g6 := take_getD hs (i := 6 + valLen (r.getD 1 0)) (by omega)
        refine ⟨?_, fun V => ?_⟩
        · rw [h4]
          unfold recLen
          rw [if_neg (by omega), g0, if_neg a2, g1, if_neg]
          rw [g6]
          intro e
          rcases e with e | e | e
          · exact a3 (.inl e)
          · omega
          · exact a3 (.inr (.inr e))
        · have hr : recLen r' = recLen r := by
            rw [h4]
            unfold recLen
            rw [if_neg (by omega), g0, if_neg a2, g1, if_neg]
            rw [g6]
            intro e
            rcases e with e | e | e
            · exact a3 (.inl e)
            · omega
            · exact a3 (.inr (.inr e))
          unfold stepV
          rw [g0, g1, hr]
          have hd : (r'.drop 2).take (recLen r - 7) = (r.drop 2).take (recLen r - 7) := by
            refine List.ext_getElem? fun i => ?_
            rw [List.getElem?_take, List.getElem?_take]
            by_cases hi : i < recLen r - 7
            · rw [if_pos hi, if_pos hi, List.getElem?_drop, List.getElem?_drop]
              have b1 : (r'.take (recLen r))[2 + i]? = r'[2 + i]? := by rw [List.getElem?_take, if_pos (by omega)]
              have b2 : (r.take (recLen r))[2 + i]? = r[2 + i]? := by rw [List.getElem?_take, if_pos (by omega)]
              rw [← b1, ← b2, hs]
            · rw [if_neg hi, if_neg hi]
          rw [hd]
theorem recLen_nil : recLen [] = 0 := rfl
theorem takeR_fuel (l : List UInt8) : ∀ (f : Nat) (A : Int → Option (List UInt8)) (p f' : Nat), l.length ≤ p + f → l.length ≤ p + f' → takeR l f A p = takeR l f' A p
  | 0, A, p, f', h, h' => by
    have hd : l.drop p = [] := List.drop_of_length_le (by omega)
    rw [takeR_end f' (by rw [hd]; rfl)]; rfl
  | f + 1, A, p, 0, h, h' => by
    have hd : l.drop p = [] := List.drop_of_length_le (by omega)
    rw [takeR_end (f + 1) (by rw [hd]; rfl)]; rfl
  | f + 1, A, p, f' + 1, h, h' => by
    rw [takeR, takeR]
    by_cases hr : recLen (l.drop p) = 0
    · rw [if_pos hr, if_pos hr]
    · rw [if_neg hr, if_neg hr]
      by_cases ho : opens ((l.drop p).take (recLen (l.drop p) - 1)) = none
      · rw [if_pos ho, if_pos ho]
      · rw [if_neg ho, if_neg ho]
        have := (recLen_few hr).1
        exact takeR_fuel l f _ _ f' (by omega) (by omega)
theorem takeR_ge (l : List UInt8) : ∀ (f : Nat) (A : Int → Option (List UInt8)) (p : Nat), p ≤ (takeR l f A p).2.1
  | 0, A, p => Nat.le_refl _
  | f + 1, A, p => by
    rw [takeR]
    split
    · exact Nat.le_refl _
    · split
      · exact Nat.le_refl _
      · have := takeR_ge l f (stepV A (l.drop p)) (p + recLen (l.drop p))
        omega
/-- Bytes that agree up to there are taken up alike up to there. -/
theorem takeR_local (l l' : List UInt8) (hll : l'.length = l.length) {V : Int → Option (List UInt8)} {p : Nat} (hs : ∀ i, i < p → l'[i]? = l[i]?) : ∀ (f : Nat) (A : Int → Option (List UInt8)) (a : Nat), l.length ≤ a + f → takeR l f A a = (V, p, 0) → takeR l' f A a = takeR l' f V p
  | 0, A, a, hf, h => by
    have h' : (A, a, (0 : Int)) = (V, p, 0) := h
    have e1 : A = V := congrArg (·.1) h'
    have e2 : a = p := congrArg (·.2.1) h'
    rw [e1, e2]
  | f + 1, A, a, hf, h => by
    rw [takeR] at h
    by_cases hr : recLen (l.drop a) = 0
    · rw [if_pos hr] at h
      injection h with e1 e2
      injection e2 with e2 _
      subst e1 e2; rfl
    · rw [if_neg hr] at h
      by_cases ho : opens ((l.drop a).take (recLen (l.drop a) - 1)) = none
      · rw [if_pos ho] at h
        injection h with _ e2
        injection e2 with _ e2
        cases e2
      · rw [if_neg ho] at h
        have hge := takeR_ge l f (stepV A (l.drop a)) (a + recLen (l.drop a))
        rw [h] at hge
        have hge' : a + recLen (l.drop a) ≤ p := hge
        have h7 := (recLen_few hr).1
        have hle := recLen_le (l.drop a)
        have hld : (l.drop a).length = (l'.drop a).length := by rw [List.length_drop, List.length_drop, hll]
        have htk : ∀ n, n ≤ recLen (l.drop a) → (l'.drop a).take n = (l.drop a).take n := fun n hn => by
          refine List.ext_getElem? fun i => ?_
          rw [List.getElem?_take, List.getElem?_take]
          by_cases hi : i < n
          · rw [if_pos hi, if_pos hi, List.getElem?_drop, List.getElem?_drop]
            exact hs _ (by omega)
          · rw [if_neg hi, if_neg hi]
        obtain ⟨r1, r2⟩ := recLen_same (r := l.drop a) (r' := l'.drop a) hr (by omega) (htk _ (Nat.le_refl _))
        rw [takeR, r1, if_neg hr, htk _ (by omega), if_neg ho, r2]
        rw [takeR_local l l' hll hs f _ _ (by omega) h]
        exact takeR_fuel l' f V p (f + 1) (by omega) (by omega)
/-- A record that was cut is none. -/
theorem recLen_cut (k n : UInt8) (body tail : List UInt8) (r : Nat) (hr : r ≤ 2 + body.length) (hb : body.length = valLen n + 4) (hn : n.toNat ≤ 254) (ht : ∀ i, i < 2 + body.length + 1 - r → tail[i]? = some 255) : recLen ((k :: n :: body).take r ++ tail) = 0 := by
  have hlt : ((k :: n :: body).take r).length = r := by rw [List.length_take]; simp; omega
  have hhi : ∀ i, r ≤ i → i < 2 + body.length + 1 → ((k :: n :: body).take r ++ tail).getD i 0 = 255 := fun i h1 h2 => by
    rw [List.getD_eq_getElem?_getD, List.getElem?_append_right (by omega), hlt, ht _ (by omega)]; rfl
  have hlo : ∀ i, i < r → ((k :: n :: body).take r ++ tail).getD i 0 = (k :: n :: body).getD i 0 := fun i h1 => by
    rw [List.getD_eq_getElem?_getD, List.getD_eq_getElem?_getD, List.getElem?_append_left (by omega), List.getElem?_take, if_pos h1]
  obtain ⟨b, hbb⟩ : ∃ b, (k :: n :: body).take r ++ tail = b := ⟨_, rfl⟩
  rw [hbb] at hhi hlo ⊢
  unfold recLen
  by_cases c1 : b.length < 7
  · rw [if_pos c1]
  · rw [if_neg c1]
    by_cases c2 : 32 ≤ (b.getD 0 0).toNat
    · rw [if_pos c2]
    · rw [if_neg c2, if_pos]
      have r0 : r ≠ 0 := fun e => c2 (by rw [hhi 0 (by omega) (by omega)]; decide)
      by_cases r1 : r = 1
      · left
        rw [hhi 1 (by omega) (by omega)]; decide
      · right; right
        have e1 : b.getD 1 0 = n := by rw [hlo 1 (by omega)]; rfl
        rw [e1, hhi _ (by omega) (by omega)]; decide
/-- A dropping record at the beginning of bytes. -/
theorem drop_at (k : Int) (r : List UInt8) (h0 : 0 ≤ k) (h1 : k < 32) :
    recLen (seals [UInt8.ofNat k.toNat, 254] ++ [0] ++ r) = 7 ∧ opens ((seals [UInt8.ofNat k.toNat, 254] ++ [0] ++ r).take 6) ≠ none ∧ ∀ A, stepV A (seals [UInt8.ofNat k.toNat, 254] ++ [0] ++ r) = dropV A k := by
  have hlen : (seals [UInt8.ofNat k.toNat, 254]).length = 6 := seals_len _ _ []
  obtain ⟨q, hq⟩ : ∃ q, seals [UInt8.ofNat k.toNat, 254] = UInt8.ofNat k.toNat :: 254 :: q := by unfold seals; exact ⟨_, rfl⟩
  have g0 : (seals [UInt8.ofNat k.toNat, 254] ++ [0] ++ r).getD 0 0 = UInt8.ofNat k.toNat := by rw [hq]; rfl
  have g1 : (seals [UInt8.ofNat k.toNat, 254] ++ [0] ++ r).getD 1 0 = 254 := by rw [hq]; rfl
  have t0 : (UInt8.ofNat k.toNat).toNat = k.toNat := by simp; omega
  have t1 : (254 : UInt8).toNat = 254 := by decide
  have v1 : valLen 254 = 0 := by decide
  have hz : (seals [UInt8.ofNat k.toNat, 254] ++ [0] ++ r).getD (6 + 0) 0 = 0 := by
    rw [List.getD_eq_getElem?_getD, List.append_assoc, List.getElem?_append_right (by omega), hlen]; rfl
  have hL : (seals [UInt8.ofNat k.toNat, 254] ++ [0] ++ r).length = 7 + r.length := by simp [hlen]; omega
  refine ⟨?_, ?_, fun A => ?_⟩
  · unfold recLen
    rw [g0, g1, t0, v1, hz, if_neg (by omega), if_neg (by omega), if_neg (by simp; omega)]
  · have : (seals [UInt8.ofNat k.toNat, 254] ++ [0] ++ r).take 6 = seals [UInt8.ofNat k.toNat, 254] := by
      rw [List.append_assoc, List.take_append_of_le_length (by omega), List.take_of_length_le (by omega)]
    rw [this, opens_back]
    exact fun e => by cases e
  · unfold stepV
    rw [g0, g1, t0, t1, if_pos rfl]
    have hk : ((k.toNat : Nat) : Int) = k := by omega
    rw [hk]
/-- One more record behind what is taken up. -/
theorem take_rec {l l' : List UInt8} {V : Int → Option (List UInt8)} {p : Nat} {rec t : List UInt8} (h : takeOf l = (V, p, 0)) (hll : l'.length = l.length) (hl8 : 0 < l.length) (hs : ∀ i, i < p → l'[i]? = l[i]?) (hd : l'.drop p = rec ++ [0] ++ t) (ht : recLen t = 0)
    (hr : recLen (rec ++ [0] ++ t) = rec.length + 1) (ho : opens ((rec ++ [0] ++ t).take rec.length) ≠ none) : takeOf l' = (stepV V (rec ++ [0] ++ t), p + rec.length + 1, 0) := by
  have h1 := takeR_local l l' hll hs l.length noV 8 (by omega) h
  unfold takeOf
  rw [hll, h1]
  obtain ⟨f, hf⟩ : ∃ f, l.length = f + 1 := ⟨l.length - 1, by omega⟩
  have hd2 : l'.drop (p + (rec.length + 1)) = t := by
    rw [← List.drop_drop, hd, List.drop_append_of_le_length (by simp), List.drop_of_length_le (by simp)]; rfl
  rw [hf, takeR_step (by rw [hd, hr]; omega) (by rw [hd, hr, Nat.add_sub_cancel]; exact ho), hd, hr, takeR_end f (by rw [hd2]; exact ht)]
  rfl
/-- No record behind what is taken up. -/
theorem take_none {l l' : List UInt8} {V : Int → Option (List UInt8)} {p : Nat} (h : takeOf l = (V, p, 0)) (hll : l'.length = l.length) (hs : ∀ i, i < p → l'[i]? = l[i]?) (hr : recLen (l'.drop p) = 0) : takeOf l' = (V, p, 0) := by
  have h1 := takeR_local l l' hll hs l.length noV 8 (by omega) h
  unfold takeOf
  rw [hll, h1, takeR_end _ hr]
/-- A flash cut while all was moved: what counts is as it was. -/
theorem cut_moved {F G : Fl} {J : JP} {s : JS} {sz : Nat} (hc : s.cnt < 2) (hsel0 : selOf F J (S0 sz) 2 = some (s.cnt, s.ep)) (htk0 : takeOf (grp F J (S0 sz) s.cnt) = (s.V, s.en, 0)) (hw : Within (J.be (1 - s.cnt)) (J.si (1 - s.cnt)) F G) (hf : G.dat[J.be (1 - s.cnt)]? = some 255 ∨ G.dat = F.dat)
    (hdis : J.be 0 + J.si 0 ≤ J.be 1 ∨ J.be 1 + J.si 1 ≤ J.be 0) (hs0 : sz ≤ J.si 0) (hs1 : sz ≤ J.si 1) (h0 : 0 < sz) :
    selOf G J (S0 sz) 2 = some (s.cnt, s.ep) ∧ takeOf (grp G J (S0 sz) s.cnt) = (s.V, s.en, 0) ∧ grp G J (S0 sz) s.cnt = grp F J (S0 sz) s.cnt := by
  have hsame : grp G J (S0 sz) s.cnt = grp F J (S0 sz) s.cnt := by
    refine List.ext_getElem? fun j => ?_
    unfold grp piece
    rw [List.getElem?_take, List.getElem?_take]
    by_cases hj : j < (S0 sz).size
    · rw [if_pos hj, if_pos hj, List.getElem?_drop, List.getElem?_drop]
      have hj' : j < sz := hj
      have hg : s.cnt = 0 ∨ s.cnt = 1 := by omega
      refine hw.dat _ (fun x => ?_)
      rcases hg with e | e <;> rw [e] at x <;> simp at x <;> omega
    · rw [if_neg hj, if_neg hj]
  refine ⟨?_, by rw [hsame]; exact htk0, hsame⟩
  rcases hf with hf | hf
  · have hn : (grp G J (S0 sz) (1 - s.cnt)).getD 0 0 = 255 := by
      unfold grp piece
      rw [List.getD_eq_getElem?_getD, List.getElem?_take, if_pos (show 0 < (S0 sz).size from h0), List.getElem?_drop, Nat.add_zero, hf]; rfl
    have hsel := hsel0
    rw [sel_two] at hsel ⊢
    have hg : s.cnt = 0 ∨ s.cnt = 1 := by omega
    rcases hg with e | e
    · rw [e] at hsame hn hsel ⊢
      have hn' : (grp G J (S0 sz) 1).getD 0 0 = 255 := hn
      rw [hn', hsame, if_neg (fun x => absurd x.1 (by decide))]
      split at hsel
      · injection hsel with hsel
        injection hsel with a _
        cases a
      · exact hsel
    · rw [e] at hsame hn hsel ⊢
      have hn' : (grp G J (S0 sz) 0).getD 0 0 = 255 := hn
      rw [hn', hsame]
      split at hsel
      · rename_i hx
        rw [if_pos ⟨hx.1, fun x => absurd x (by decide)⟩]; exact hsel
      · split at hsel
        · injection hsel with hsel
          injection hsel with a _
          cases a
        · cases hsel
  · have : ∀ i, grp G J (S0 sz) i = grp F J (S0 sz) i := fun i => by unfold grp piece; rw [hf]
    rw [sel_two, this, this, ← sel_two]; exact hsel0
theorem g32_take (x : List UInt8) : g32 (x.take 4) = g32 x := by
  match x with
  | [] => rfl
  | [_] => rfl
  | [_, _] => rfl
  | [_, _, _] => rfl
  | _ :: _ :: _ :: _ :: _ => rfl
theorem epOf_same {l l' : List UInt8} (h : l'.take 5 = l.take 5) : epOf l' = epOf l := by
  have e : (l'.drop 1).take 4 = (l.drop 1).take 4 := by
    have e1 : (l'.take 5).drop 1 = (l'.drop 1).take 4 := List.drop_take
    have e2 : (l.take 5).drop 1 = (l.drop 1).take 4 := List.drop_take
    rw [← e1, ← e2, h]
  unfold epOf
  rw [← g32_take (l'.drop 1), ← g32_take (l.drop 1), e]
/-- A flash cut in a record: what counts is as it was. -/
theorem cut_record {F G : Fl} {J : JP} {s : JS} {sz r : Nat} {k n : UInt8} {body : List UInt8} (hc : s.cnt < 2) (hst : Settled F J s sz) (hb : body.length = valLen n + 4) (hn : n.toNat ≤ 254) (hroom : s.en + (2 + body.length) + 1 ≤ sz) (hr : r ≤ 2 + body.length)
    (hd : G.dat = patch F.dat (J.be s.cnt + s.en) (((k :: n :: body) ++ [0]).take r)) (ht : Blk F (J.be s.cnt + s.en) (J.be s.cnt + sz)) (hfit : J.be s.cnt + sz ≤ F.dat.length)
    (hdis : J.be 0 + J.si 0 ≤ J.be 1 ∨ J.be 1 + J.si 1 ≤ J.be 0) (hs0 : sz ≤ J.si 0) (hs1 : sz ≤ J.si 1) :
    selOf G J (S0 sz) 2 = some (s.cnt, s.ep) ∧ takeOf (grp G J (S0 sz) s.cnt) = (s.V, s.en, 0) := by
  have hrl : (((k :: n :: body) ++ [0]).take r).length = r := by rw [List.length_take]; simp; omega
  have hget : ∀ i, G.dat[i]? = if J.be s.cnt + s.en ≤ i ∧ i < J.be s.cnt + s.en + r then (((k :: n :: body) ++ [0]).take r)[i - (J.be s.cnt + s.en)]? else F.dat[i]? := fun i => by
    rw [hd, patch_get _ _ _ (by rw [hrl]; omega), hrl]
  have hlenG : G.dat.length = F.dat.length := by rw [hd, patch_length _ _ _ (by rw [hrl]; omega)]
  have h8 : 8 ≤ s.en := by
    have := takeR_ge (grp F J (S0 sz) s.cnt) (grp F J (S0 sz) s.cnt).length noV 8
    have e : takeR (grp F J (S0 sz) s.cnt) (grp F J (S0 sz) s.cnt).length noV 8 = (s.V, s.en, 0) := hst.take
    rw [e] at this; exact this
  have hll : ∀ i, (grp G J (S0 sz) i).length = (grp F J (S0 sz) i).length := fun i => by
    unfold grp piece
    rw [List.length_take, List.length_take, List.length_drop, List.length_drop, hlenG]
  have hat : ∀ (H : Fl) (i j : Nat), (grp H J (S0 sz) i)[j]? = if j < sz then H.dat[J.be i + j]? else none := fun H i j => by
    unfold grp piece
    rw [List.getElem?_take, List.getElem?_drop]; rfl
  have hlow : ∀ i, i < 2 → ∀ j, j < s.en → (grp G J (S0 sz) i)[j]? = (grp F J (S0 sz) i)[j]? := fun i hi j hj => by
    rw [hat, hat]
    by_cases hjs : j < sz
    · rw [if_pos hjs, if_pos hjs, hget, if_neg]
      intro x
      have hg : s.cnt = 0 ∨ s.cnt = 1 := by omega
      have hg2 : i = 0 ∨ i = 1 := by omega
      rcases hg with e | e <;> rcases hg2 with rfl | rfl <;> rw [e] at x <;> omega
    · rw [if_neg hjs, if_neg hjs]
  have hw : ∀ i, i < 2 → (grp G J (S0 sz) i).getD 0 0 = (grp F J (S0 sz) i).getD 0 0 ∧ epOf (grp G J (S0 sz) i) = epOf (grp F J (S0 sz) i) := fun i hi => by
    refine ⟨by rw [List.getD_eq_getElem?_getD, List.getD_eq_getElem?_getD, hlow i hi 0 (by omega)], epOf_same (List.ext_getElem? fun j => ?_)⟩
    rw [List.getElem?_take, List.getElem?_take]
    by_cases hj : j < 5
    · rw [if_pos hj, if_pos hj, hlow i hi j (by omega)]
    · rw [if_neg hj, if_neg hj]
  refine ⟨?_, take_none hst.take (hll _) (fun i hi => hlow _ hc i hi) ?_⟩
  · rw [sel_two, (hw 0 (by omega)).1, (hw 0 (by omega)).2, (hw 1 (by omega)).1, (hw 1 (by omega)).2, ← sel_two]
    exact hst.sel
  · have hsplit : (grp G J (S0 sz) s.cnt).drop s.en = (k :: n :: body).take r ++ (grp G J (S0 sz) s.cnt).drop (s.en + r) := by
      refine List.ext_getElem? fun j => ?_
      rw [List.getElem?_drop]
      by_cases hj : j < r
      · rw [List.getElem?_append_left (by rw [List.length_take]; simp; omega), hat, if_pos (by omega), hget, if_pos (by omega), show J.be s.cnt + (s.en + j) - (J.be s.cnt + s.en) = j by omega, List.getElem?_take, if_pos hj, List.getElem?_take, if_pos hj, List.getElem?_append_left (by simp; omega)]
      · have hl2 : ((k :: n :: body).take r).length = r := by rw [List.length_take]; simp; omega
        rw [List.getElem?_append_right (by omega), hl2, List.getElem?_drop, show s.en + r + (j - r) = s.en + j by omega]
    rw [hsplit]
    refine recLen_cut k n body _ r hr hb hn (fun i hi => ?_)
    rw [List.getElem?_drop, hat, if_pos (by omega), hget, if_neg (by omega)]
    exact ht _ (by omega) (by omega)
/-- What counts, and how far. -/
structure Held (G : Fl) (J : JP) (sz c : Nat) (ep : Int) (V : Int → Option (List UInt8)) (en : Nat) : Prop where
  sel : selOf G J (S0 sz) 2 = some (c, ep)
  take : takeOf (grp G J (S0 sz) c) = (V, en, 0)
theorem Settled.held {G : Fl} {J : JP} {s : JS} {sz : Nat} (h : Settled G J s sz) : Held G J sz s.cnt s.ep s.V s.en := ⟨h.sel, h.take⟩
theorem sel_ep {F : Fl} {J : JP} {s : JS} {c : Nat} {ep : Int} (h : selOf F J s 2 = some (c, ep)) : c < 2 ∧ epOf (grp F J s c) = ep := by
  rw [sel_two] at h
  split at h
  · injection h with h; injection h with h1 h2
    subst h1; exact ⟨by omega, h2⟩
  · split at h
    · injection h with h; injection h with h1 h2
      subst h1; exact ⟨by omega, h2⟩
    · cases h
/-- The flash with its power. -/
def onF (G : Fl) : Fl := { G with cut := false, down := false }
theorem onF_on (G : Fl) : On (onF G) := ⟨rfl, rfl⟩
theorem Settled.dat {G H : Fl} {J : JP} {s : JS} {sz : Nat} (h : Settled G J s sz) (e : H.dat = G.dat) : Settled H J s sz := by
  have hg : ∀ i, grp H J (S0 sz) i = grp G J (S0 sz) i := fun i => by unfold grp piece; rw [e]
  refine ⟨?_, by rw [hg]; exact h.take, ?_⟩
  · rw [sel_two, hg, hg, ← sel_two]; exact h.sel
  · have : piece H (J.be s.cnt + s.en) (sz - s.en) = piece G (J.be s.cnt + s.en) (sz - s.en) := by unfold piece; rw [e]
    rw [this]; exact h.blank
theorem Held.dat {G H : Fl} {J : JP} {sz c en : Nat} {ep : Int} {V : Int → Option (List UInt8)} (h : Held G J sz c ep V en) (e : H.dat = G.dat) : Held H J sz c ep V en := by
  have hg : ∀ i, grp H J (S0 sz) i = grp G J (S0 sz) i := fun i => by unfold grp piece; rw [e]
  exact ⟨by rw [sel_two, hg, hg, ← sel_two]; exact h.sel, by rw [hg]; exact h.take⟩
theorem LaidTo.at_ {F G : Fl} {be si : Nat} {ep : Int} {V : Int → Option (List UInt8)} (h : LaidTo F G be si ep V) : LaidAt F (onF G) be si ep V := ⟨onF_on G, h.len, h.out, h.head, h.rest⟩
/-- Behind a record that was written whole. -/
theorem settled_rec {F G : Fl} {J : JP} {s s' : JS} {sz : Nat} {rec : List UInt8} {V' : Int → Option (List UInt8)} (hc : s.cnt < 2) (hst : Settled F J s sz) (hroom : s.en + rec.length + 1 ≤ sz)
    (hd : G.dat = patch F.dat (J.be s.cnt + s.en) (rec ++ [0])) (ht : Blk F (J.be s.cnt + s.en) (J.be s.cnt + sz)) (hfit : J.be s.cnt + sz ≤ F.dat.length)
    (hdis : J.be 0 + J.si 0 ≤ J.be 1 ∨ J.be 1 + J.si 1 ≤ J.be 0) (hs0 : sz ≤ J.si 0) (hs1 : sz ≤ J.si 1)
    (hrec : ∀ r, recLen (rec ++ [0] ++ r) = rec.length + 1 ∧ opens ((rec ++ [0] ++ r).take rec.length) ≠ none ∧ stepV s.V (rec ++ [0] ++ r) = V')
    (e1 : s'.cnt = s.cnt) (e2 : s'.ep = s.ep) (e3 : s'.en = s.en + rec.length + 1) (e4 : s'.V = V') : Settled G J s' sz := by
  have hrl : (rec ++ [0]).length = rec.length + 1 := by simp
  have hget : ∀ i, G.dat[i]? = if J.be s.cnt + s.en ≤ i ∧ i < J.be s.cnt + s.en + (rec.length + 1) then (rec ++ [0])[i - (J.be s.cnt + s.en)]? else F.dat[i]? := fun i => by
    rw [hd, patch_get _ _ _ (by rw [hrl]; omega), hrl]
  have hlenG : G.dat.length = F.dat.length := by rw [hd, patch_length _ _ _ (by rw [hrl]; omega)]
  have h8 : 8 ≤ s.en := by
    have := takeR_ge (grp F J (S0 sz) s.cnt) (grp F J (S0 sz) s.cnt).length noV 8
    have e : takeR (grp F J (S0 sz) s.cnt) (grp F J (S0 sz) s.cnt).length noV 8 = (s.V, s.en, 0) := hst.take
    rw [e] at this; exact this
  have hll : ∀ i, (grp G J (S0 sz) i).length = (grp F J (S0 sz) i).length := fun i => by
    unfold grp piece
    rw [List.length_take, List.length_take, List.length_drop, List.length_drop, hlenG]
  have hat : ∀ (H : Fl) (i j : Nat), (grp H J (S0 sz) i)[j]? = if j < sz then H.dat[J.be i + j]? else none := fun H i j => by
    unfold grp piece
    rw [List.getElem?_take, List.getElem?_drop]; rfl
  have hlow : ∀ i, i < 2 → ∀ j, j < s.en → (grp G J (S0 sz) i)[j]? = (grp F J (S0 sz) i)[j]? := fun i hi j hj => by
    rw [hat, hat]
    by_cases hjs : j < sz
    · rw [if_pos hjs, if_pos hjs, hget, if_neg]
      intro x
      have hg : s.cnt = 0 ∨ s.cnt = 1 := by omega
      have hg2 : i = 0 ∨ i = 1 := by omega
      rcases hg with e | e <;> rcases hg2 with rfl | rfl <;> rw [e] at x <;> omega
    · rw [if_neg hjs, if_neg hjs]
  have hw : ∀ i, i < 2 → (grp G J (S0 sz) i).getD 0 0 = (grp F J (S0 sz) i).getD 0 0 ∧ epOf (grp G J (S0 sz) i) = epOf (grp F J (S0 sz) i) := fun i hi => by
    refine ⟨by rw [List.getD_eq_getElem?_getD, List.getD_eq_getElem?_getD, hlow i hi 0 (by omega)], epOf_same (List.ext_getElem? fun j => ?_)⟩
    rw [List.getElem?_take, List.getElem?_take]
    by_cases hj : j < 5
    · rw [if_pos hj, if_pos hj, hlow i hi j (by omega)]
    · rw [if_neg hj, if_neg hj]
  have hglen : (grp G J (S0 sz) s.cnt).length = sz := by
    unfold grp piece
    rw [List.length_take, List.length_drop, hlenG]
    show min sz _ = sz
    omega
  have hsplit : (grp G J (S0 sz) s.cnt).drop s.en = rec ++ [0] ++ List.replicate (sz - (s.en + rec.length + 1)) 255 := by
    refine List.ext_getElem? fun j => ?_
    rw [List.getElem?_drop, hat]
    by_cases hj : j < rec.length + 1
    · rw [List.getElem?_append_left (by rw [hrl]; exact hj), if_pos (by omega), hget, if_pos (by omega), show J.be s.cnt + (s.en + j) - (J.be s.cnt + s.en) = j by omega]
    · rw [List.getElem?_append_right (by rw [hrl]; omega), hrl, List.getElem?_replicate]
      by_cases hjs : s.en + j < sz
      · rw [if_pos hjs, if_pos (by omega), hget, if_neg (by omega)]
        exact ht _ (by omega) (by omega)
      · rw [if_neg hjs, if_neg (by omega)]
  obtain ⟨r1, r2, r3⟩ := hrec (List.replicate (sz - (s.en + rec.length + 1)) 255)
  refine ⟨?_, ?_, ?_⟩
  · rw [e1, e2, sel_two, (hw 0 (by omega)).1, (hw 0 (by omega)).2, (hw 1 (by omega)).1, (hw 1 (by omega)).2, ← sel_two]
    exact hst.sel
  · rw [e1, e3, e4, ← r3]
    exact take_rec hst.take (hll _) (by rw [← hll, hglen]; omega) (fun i hi => hlow _ hc i hi) hsplit (ones_rec _) r1 r2
  · rw [e1, e3]
    exact endOf_blk (fun i a b => by rw [hget, if_neg (by omega)]; exact ht i (by omega) (by omega))
theorem put_drop (V : Int → Option (List UInt8)) (k : Int) (l : List UInt8) : putV (dropV V k) k l = putV V k l := by
  funext x
  unfold putV dropV
  by_cases h : x = k
  · rw [if_pos h, if_pos h]
  · rw [if_neg h, if_neg h, if_neg h]
theorem put_rec (V : Int → Option (List UInt8)) (k : Int) (l : List UInt8) (h0 : 0 ≤ k) (h1 : k < 32) (hl : l.length ≤ 250) (r : List UInt8) :
    recLen (seals (UInt8.ofNat k.toNat :: UInt8.ofNat l.length :: l) ++ [0] ++ r) = (seals (UInt8.ofNat k.toNat :: UInt8.ofNat l.length :: l)).length + 1 ∧ opens ((seals (UInt8.ofNat k.toNat :: UInt8.ofNat l.length :: l) ++ [0] ++ r).take (seals (UInt8.ofNat k.toNat :: UInt8.ofNat l.length :: l)).length) ≠ none ∧ stepV V (seals (UInt8.ofNat k.toNat :: UInt8.ofNat l.length :: l) ++ [0] ++ r) = putV (dropV V k) k l := by
  have hg : ((putV V k l) k).getD [] = l := by unfold putV; rw [if_pos rfl]; rfl
  have h := rec_at (putV V k l) k r h0 h1 (by rw [hg]; exact hl)
  have hr : recOf (putV V k l) k = seals (UInt8.ofNat k.toNat :: UInt8.ofNat l.length :: l) := by unfold recOf; rw [hg]
  rw [hr, hg] at h
  obtain ⟨a, b, c⟩ := h
  have hlen := seals_len (UInt8.ofNat k.toNat) (UInt8.ofNat l.length) l
  refine ⟨by rw [a, hlen]; omega, by rw [hlen, show l.length + 6 = 6 + l.length by omega]; exact b, by rw [c, put_drop]⟩
theorem drop_rec (V : Int → Option (List UInt8)) (k : Int) (h0 : 0 ≤ k) (h1 : k < 32) (r : List UInt8) :
    recLen (seals [UInt8.ofNat k.toNat, 254] ++ [0] ++ r) = (seals [UInt8.ofNat k.toNat, 254]).length + 1 ∧ opens ((seals [UInt8.ofNat k.toNat, 254] ++ [0] ++ r).take (seals [UInt8.ofNat k.toNat, 254]).length) ≠ none ∧ stepV V (seals [UInt8.ofNat k.toNat, 254] ++ [0] ++ r) = dropV V k := by
  obtain ⟨a, b, c⟩ := drop_at k r h0 h1
  have hlen : (seals [UInt8.ofNat k.toNat, 254]).length = 6 := seals_len _ _ []
  exact ⟨by rw [a, hlen], by rw [hlen]; exact b, c V⟩
/-- The journal's flash and parts stand so. -/
structure Geo (J : JP) (sz : Nat) : Prop where
  dis : J.be 0 + J.si 0 ≤ J.be 1 ∨ J.be 1 + J.si 1 ≤ J.be 0
  s0 : sz ≤ J.si 0
  s1 : sz ≤ J.si 1
  big : 32 ≤ sz
/-- The state between two steps. -/
structure Good (W : World) (J : JP) (F : Fl) (s : JS) (sz : Nat) : Prop where
  j : JAt W J F s
  up : Up F
  tail : Tail F J s
  size : s.size = sz
  set : Settled F J s sz
theorem Good.below {W W' : World} {J : JP} {F : Fl} {s : JS} {sz : Nat} (h : Good W J F s sz) (hb : Below W.heap.size W W') : Good W' J F s sz := ⟨h.j.below hb, h.up, h.tail, h.size, h.set⟩
theorem good_step {W w' : World} {J : JP} {F : Fl} {s : JS} {sz : Nat} {V' : Int → Option (List UInt8)} {rec : List UInt8} (hG : Geo J sz) (h : Good W J F s sz) (hV : sizeAll V' ≤ s.size)
    (hrec : ∀ r, recLen (rec ++ [0] ++ r) = rec.length + 1 ∧ opens ((rec ++ [0] ++ r).take rec.length) ≠ none ∧ stepV s.V (rec ++ [0] ++ r) = V') (hst : SteppedUp w' J F s V' rec) :
    ∃ G s', Good w' J G s' sz ∧ s'.V = V' ∧ s'.ep ≤ s.ep + 1 := by
  have hsz := h.size
  rcases hst with ⟨h1, G, pn, D, hj, hu, hd⟩ | ⟨h1, h2, G, pn, D, hj, hL⟩
  · have hft := (h.j.ok s.cnt h.j.cnt).fits h.j.fl.ok
    have hsi := h.j.size s.cnt h.j.cnt
    have ht := h.tail
    unfold Tail at ht
    rw [hsz] at ht
    refine ⟨G, _, ⟨hj, hu, ?_, hsz, settled_rec h.j.cnt h.set (by omega) hd ht (by omega) hG.dis hG.s0 hG.s1 hrec rfl rfl rfl rfl⟩, rfl, by show s.ep ≤ s.ep + 1; omega⟩
    exact blk_patch hd (by simp; omega) (blk_less h.tail (by show _ ≤ J.be s.cnt + (s.en + rec.length + 1); omega) (Nat.le_refl _)) (by simp; omega)
  · have hsi := h.j.size (1 - s.cnt) (by omega)
    have hse := sel_ep h.set.sel
    have hcc : 1 - (1 - s.cnt) = s.cnt := by have := h.j.cnt; omega
    have hep := h.j.ep
    refine ⟨G, _, ⟨hj, hL.up, blk_less hL.rest (Nat.le_refl _) (by show J.be (1 - s.cnt) + s.size ≤ _; omega), hsz, ?_⟩, rfl, Int.le_refl _⟩
    refine (laid_settled (gi := 1 - s.cnt) (G := onF G) (by omega) hL.at_ (by omega) hj.vals (by omega) (by omega) (by omega) hG.dis hG.s0 hG.s1 (.inr ?_) rfl rfl rfl rfl).dat rfl
    rw [hcc, hse.2]; omega
/-- A step that was cut: what counts is as it was. -/
theorem cut_held {W : World} {J : JP} {F G : Fl} {s : JS} {sz : Nat} {k n : UInt8} {body : List UInt8} (hG : Geo J sz) (h : Good W J F s sz) (hb : body.length = valLen n + 4) (hn : n.toNat ≤ 254) (hc : CutTo F G J s (k :: n :: body)) :
    Held G J sz s.cnt s.ep s.V s.en := by
  have hsz := h.size
  obtain ⟨_, _, _, _, hc⟩ := hc
  have hft := (h.j.ok s.cnt h.j.cnt).fits h.j.fl.ok
  have hsi := h.j.size s.cnt h.j.cnt
  rcases hc with ⟨h1, r, hr, hd⟩ | ⟨hw, hf⟩
  · have ht := h.tail
    unfold Tail at ht
    rw [hsz] at ht
    have hl : (k :: n :: body).length = 2 + body.length := by simp; omega
    rw [hl] at h1 hr
    obtain ⟨a, b⟩ := cut_record h.j.cnt h.set hb hn (by omega) hr hd ht (by omega) hG.dis hG.s0 hG.s1
    exact ⟨a, b⟩
  · obtain ⟨a, b, _⟩ := cut_moved h.j.cnt h.set.sel h.set.take hw hf hG.dis hG.s0 hG.s1 (by have := hG.big; omega)
    exact ⟨a, b⟩
theorem seals_form (k n : UInt8) (l : List UInt8) : ∃ body, seals (k :: n :: l) = k :: n :: body ∧ body.length = l.length + 4 := by
  unfold seals
  exact ⟨l ++ p32 ((sum (k :: n :: l)).toNat : Int), by simp, by simp [p32]⟩
/-- A flash that is down, of which what counted counts. -/
def Cutd (W w' : World) (J : JP) (F : Fl) (s : JS) (sz : Nat) : Prop :=
  ∃ G, FlashAt w' J.g J.bb J.wb G ∧ But3 W.heap.size J.g J.bb J.wb W w' ∧ G.sec = F.sec ∧ G.wear.length = F.wear.length ∧ Held G J sz s.cnt s.ep s.V s.en
/-- What comes of Put where the power may go. -/
def PutUp (W : World) (J : JP) (F : Fl) (s : JS) (sz : Nat) (key : Int) (l : List UInt8) (e : Ending) (w' : World) : Prop :=
  (∃ ec : Int, e = .returned (.int .i64 ec) ∧ ec ≠ 0 ∧ ec ≠ 30 ∧ Below W.heap.size W w') ∨
  ((0 ≤ key ∧ key < 32) ∧ l.length ≤ 250 ∧ e = .returned (.int .i64 0) ∧ ∃ G s', Good w' J G s' sz ∧ s'.V = putV (dropV s.V key) key l ∧ s'.ep ≤ s.ep + 1) ∨
  ((0 ≤ key ∧ key < 32) ∧ l.length ≤ 250 ∧ e = .returned (.int .i64 30) ∧ Cutd W w' J F s sz)
theorem put_samev {V : Int → Option (List UInt8)} {k : Int} {l : List UInt8} (h : V k = some l) : putV (dropV V k) k l = V := by
  funext x
  unfold putV dropV
  by_cases hx : x = k
  · subst hx; rw [if_pos rfl, h]
  · rw [if_neg hx, if_neg hx]
theorem put_up {W : World} {J : JP} {F : Fl} {s : JS} {sz : Nat} {key : Int} {l : List UInt8} {e : Ending} {w' : World} (hG : Geo J sz) (h : Good W J F s sz) (hp : PutPost W J F s key l e w') :
    (∀ B, B ≤ W.heap.size → B ≤ J.g → B ≤ J.bb → B ≤ J.wb → B ≤ J.jb → Below B W w') ∧ PutUp W J F s sz key l e w' := by
  have hjk : jck F key = if key < 0 ∨ 32 ≤ key then 1 else 0 := by unfold jck; rw [if_neg (by rw [h.up.1]; decide)]
  unfold PutPost at hp
  split at hp
  · rename_i hk
    rw [hjk] at hk hp
    by_cases hr : key < 0 ∨ 32 ≤ key
    · rw [if_pos hr] at hp
      exact ⟨fun B a _ _ _ _ => hp.2.mono a, .inl ⟨1, hp.1, by decide, by decide, hp.2⟩⟩
    · rw [if_neg hr] at hk; exact absurd rfl hk
  · rename_i hk
    have hr : 0 ≤ key ∧ key < 32 := by
      rw [hjk] at hk
      by_cases hr : key < 0 ∨ 32 ≤ key
      · rw [if_pos hr] at hk; exact absurd (by decide) hk
      · omega
    split at hp
    · rename_i hl
      exact ⟨fun B a _ _ _ _ => hp.2.mono a, .inl ⟨2, hp.1, by decide, by decide, hp.2⟩⟩
    · rename_i hl
      split at hp
      · rename_i hv
        exact ⟨fun B a _ _ _ _ => hp.2.mono a, .inr (.inl ⟨hr, by omega, hp.1, F, s, h.below hp.2, by rw [put_samev hv], by omega⟩)⟩
      · rename_i hv
        obtain ⟨w1, b, D', hb1, hV, hT⟩ := hp
        obtain ⟨hB, hT⟩ := turn_up h.j hb1 hV h.up h.tail hT
        refine ⟨hB, ?_⟩
        rcases hT with ⟨a1, a2, a3⟩ | ⟨a1, a2, a3, a4, a5⟩ | ⟨a1, a2, a3⟩ | ⟨a1, a2, G, g1, g2, g3⟩
        · exact .inl ⟨6, a2, by decide, by decide, a3⟩
        · exact .inl ⟨3, a4, by decide, by decide, a5⟩
        · obtain ⟨G, s', x1, x2, x3⟩ := good_step hG h a1 (fun r => put_rec s.V key l hr.1 hr.2 (by omega) r) a3
          exact .inr (.inl ⟨hr, by omega, a2, G, s', x1, x2, x3⟩)
        · obtain ⟨body, hf, hbl⟩ := seals_form (UInt8.ofNat key.toNat) (UInt8.ofNat l.length) l
          rw [hf] at g3
          have tn : (UInt8.ofNat l.length).toNat = l.length := by simp; omega
          have hh := cut_held hG h (by rw [hbl]; unfold valLen; rw [tn, if_neg (by omega)]) (by omega) g3
          exact .inr (.inr ⟨hr, by omega, a2, G, g1, g2, g3.2.2.1, g3.2.2.2.1, hh⟩)
/-- What comes of Drop where the power may go. -/
def DropUp (W : World) (J : JP) (F : Fl) (s : JS) (sz : Nat) (key : Int) (e : Ending) (w' : World) : Prop :=
  (∃ ec : Int, e = .returned (.int .i64 ec) ∧ ec ≠ 0 ∧ ec ≠ 30 ∧ Below W.heap.size W w') ∨
  ((0 ≤ key ∧ key < 32) ∧ e = .returned (.int .i64 0) ∧ ∃ G s', Good w' J G s' sz ∧ s'.V = dropV s.V key ∧ s'.ep ≤ s.ep + 1) ∨
  ((0 ≤ key ∧ key < 32) ∧ e = .returned (.int .i64 30) ∧ Cutd W w' J F s sz)
theorem drop_up {W : World} {J : JP} {F : Fl} {s : JS} {sz : Nat} {key : Int} {e : Ending} {w' : World} (hG : Geo J sz) (h : Good W J F s sz) (hp : DropPost W J F s key e w') :
    (∀ B, B ≤ W.heap.size → B ≤ J.g → B ≤ J.bb → B ≤ J.wb → B ≤ J.jb → Below B W w') ∧ DropUp W J F s sz key e w' := by
  have hjk : jck F key = if key < 0 ∨ 32 ≤ key then 1 else 0 := by unfold jck; rw [if_neg (by rw [h.up.1]; decide)]
  unfold DropPost at hp
  split at hp
  · rename_i hk
    rw [hjk] at hk hp
    by_cases hr : key < 0 ∨ 32 ≤ key
    · rw [if_pos hr] at hp
      exact ⟨fun B a _ _ _ _ => hp.2.mono a, .inl ⟨1, hp.1, by decide, by decide, hp.2⟩⟩
    · rw [if_neg hr] at hk; exact absurd rfl hk
  · rename_i hk
    have hr : 0 ≤ key ∧ key < 32 := by
      rw [hjk] at hk
      by_cases hr : key < 0 ∨ 32 ≤ key
      · rw [if_pos hr] at hk; exact absurd (by decide) hk
      · omega
    split at hp
    · exact ⟨fun B a _ _ _ _ => hp.2.mono a, .inl ⟨4, hp.1, by decide, by decide, hp.2⟩⟩
    · obtain ⟨w1, b, D', hb1, hV, hT⟩ := hp
      obtain ⟨hB, hT⟩ := turn_up h.j hb1 hV h.up h.tail hT
      refine ⟨hB, ?_⟩
      rcases hT with ⟨a1, a2, a3⟩ | ⟨a1, a2, a3, a4, a5⟩ | ⟨a1, a2, a3⟩ | ⟨a1, a2, G, g1, g2, g3⟩
      · exact .inl ⟨6, a2, by decide, by decide, a3⟩
      · exact .inl ⟨3, a4, by decide, by decide, a5⟩
      · obtain ⟨G, s', x1, x2, x3⟩ := good_step hG h a1 (fun r => drop_rec s.V key hr.1 hr.2 r) a3
        exact .inr (.inl ⟨hr, a2, G, s', x1, x2, x3⟩)
      · obtain ⟨body, hf, hbl⟩ := seals_form (UInt8.ofNat key.toNat) 254 []
        rw [hf] at g3
        have hh := cut_held hG h (by rw [hbl]; rfl) (by decide) g3
        exact .inr (.inr ⟨hr, a2, G, g1, g2, g3.2.2.1, g3.2.2.2.1, hh⟩)
/-- A journal that was opened, of these values. -/
def Opened (w' : World) (J : JP) (sz : Nat) (V : Int → Option (List UInt8)) (ep : Int) : Prop :=
  ∃ G s', JAt w' J G s' ∧ Up G ∧ s'.size = sz ∧ Settled G J s' sz ∧ s'.V = V ∧ s'.ep ≤ ep
theorem make_up {W : World} {Q : PQ} {F : Fl} {e : Ending} {w' : World} {sz c en k : Nat} {ep : Int} {V : Int → Option (List UInt8)} (hq : PQAt W Q F) (hup : F.down = false) (hsz : min (Q.si 0) (Q.si 1) = sz) (h32 : 32 ≤ sz) (hdis : Q.be 0 + Q.si 0 ≤ Q.be 1 ∨ Q.be 1 + Q.si 1 ≤ Q.be 0)
    (hh : Held F (Q.at_ k) sz c ep V en) (hep : ep < 4294967295) (hp : MakePost W Q F e w') :
    (e = .returned (.tuple #[.pointer (some ⟨W.heap.size, 0, none⟩), .int .i64 0]) ∧ But3 W.heap.size Q.g Q.bb Q.wb W w' ∧ Opened w' (Q.at_ W.heap.size) sz V (ep + 1)) ∨
    (e = .returned (.tuple #[.pointer none, .int .i64 30]) ∧ But3 W.heap.size Q.g Q.bb Q.wb W w' ∧ ∃ G, FlashAt w' Q.g Q.bb Q.wb G ∧ G.sec = F.sec ∧ G.wear.length = F.wear.length ∧ Held G (Q.at_ k) sz c ep V en) := by
  have hd : ¬ F.down = true := by rw [hup]; decide
  have hse := sel_ep hh.sel
  have hs0 : sz ≤ Q.si 0 := by omega
  have hs1 : sz ≤ Q.si 1 := by omega
  unfold MakePost at hp
  rw [if_neg hd, hsz, if_neg (by omega)] at hp
  obtain ⟨w1, ec, hj, hb, ho, he⟩ := hp
  unfold OpenPost at ho
  have h1 : selOf F (Q.at_ W.heap.size) (S0 sz) 2 = some (c, ep) := hh.sel
  have h2 : takeOf (grp F (Q.at_ W.heap.size) (S0 sz) c) = (V, en, 0) := hh.take
  rw [h1] at ho
  simp only [h2] at ho
  rw [if_neg (by decide)] at ho
  obtain ⟨mb, D, wr, hjr, hor, ho⟩ := ho
  have hbr : Below W.heap.size W wr := hb.trans (hor.toBelow hb.size (Nat.le_refl _))
  have hsv : sizeAll V ≤ sz := by
    have h3 := take_size (grp F (Q.at_ W.heap.size) (S0 sz) c)
    rw [h2] at h3
    have h4 : en ≤ sz := hjr.en
    have h3' : sizeAll V ≤ en := h3
    omega
  by_cases h3 : endOf (piece F ((Q.at_ W.heap.size).be c + en) ((S0 sz).size - en)) ((S0 sz).size - en) = 0
  · rw [if_pos h3] at ho
    obtain ⟨ho, rfl⟩ := ho
    have hec : ec = 0 := by injection ho with x; injection x
    subst hec
    rw [if_pos rfl] at he
    exact .inl ⟨he, But3.below hbr, F, _, hjr, ⟨hup, hq.sane⟩, rfl, ⟨h1, h2, h3⟩, rfl, by show ep ≤ ep + 1; omega⟩
  · rw [if_neg h3] at ho
    rcases ho with ⟨hx, _⟩ | ⟨_, hl⟩
    · omega
    · have hbd : Below wr.heap.size wr wr.drew := below_drew wr
      have hjd := hjr.below hbd
      have hep0 : 0 ≤ ep ∧ ep < 4294967296 := hjr.ep
      have hc2 := hse.1
      rcases lay_up hjd hjd.vals ⟨hup, hq.sane⟩ (show sizeAll V ≤ sz from hsv) (by omega) (by omega) (by omega) hl with ⟨he2, G, hG, hL⟩ | ⟨he2, G, hG, hb3, wi, sn, dn, hfi⟩
      · have hec : ec = 0 := by injection he2 with x; injection x
        subst hec
        rw [if_pos rfl] at he
        have hcc : 1 - (1 - c) = c := by omega
        have hl3 : But3 W.heap.size Q.g Q.bb Q.wb W w' := by
          have hf4 := hl.but4 (J := Q.at_ W.heap.size)
          refine ⟨hf4.os.trans hbr.os, hf4.tape.trans hbr.tape, hf4.output.trans hbr.output, Nat.le_trans hbr.size hf4.size, fun i hi a b d => (hf4.block i (Nat.lt_of_lt_of_le hi hbr.size) (by show i ≠ W.heap.size; omega) a b d).trans (hbr.block i hi)⟩
        refine .inl ⟨he, hl3, G, _, hG, hL.up, rfl, ?_, rfl, Int.le_refl _⟩
        have hsi : sz ≤ (Q.at_ W.heap.size).si (1 - c) := hjr.size (1 - c) (by omega)
        refine (laid_settled (s := ⟨sz, 1 - c, ep + 1, sizeAll V, some mb, D, V⟩) (J := Q.at_ W.heap.size) (gi := 1 - c) (G := onF G) (by omega) hL.at_ hsi hG.vals (by show sizeAll V ≤ sz; exact hsv) (by omega) (by omega) hdis hs0 hs1 (.inr ?_) rfl rfl rfl rfl).dat rfl
        rw [hcc]
        have he3 : epOf (grp F (Q.at_ W.heap.size) (S0 sz) c) = ep := hse.2
        rw [he3]; omega
      · have hec : ec = 30 := by injection he2 with x; injection x
        subst hec
        rw [if_neg (by decide)] at he
        refine .inr ⟨he, (But3.below (hbr.trans (hbd.mono hbr.size))).trans hb3 (Nat.le_trans hbr.size hbd.size), G, hG, wi.sec, by rw [wi.wear], ?_⟩
        obtain ⟨a, b, _⟩ := cut_moved (J := Q.at_ W.heap.size) (s := ⟨sz, c, ep, en, none, .nil, V⟩) hse.1 h1 h2 wi hfi hdis hs0 hs1 (by omega)
        exact ⟨a, b⟩
theorem PQAt.turned {W w' : World} {Q : PQ} {F G : Fl} (h : PQAt W Q F) (hb : But3 W.heap.size Q.g Q.bb Q.wb W w') (hf : FlashAt w' Q.g Q.bb Q.wb G) (hs : G.sec = F.sec) (hw : G.wear.length = F.wear.length) (hn : Sane G) : PQAt w' Q G :=
  ⟨fun i hi => (h.part i hi).over hb (h.off i hi).1 (h.off i hi).2.1 (h.off i hi).2.2, fun i hi => by
    have := h.ok i hi
    exact ⟨this.one, by rw [hw]; exact this.in_, by rw [hs]; exact this.be, by rw [hs]; exact this.si⟩, hf, hn, h.off⟩
theorem JAt.flash {W w1 : World} {J : JP} {F F' : Fl} {s : JS} (h : JAt W J F s) (bt : But3 W.heap.size J.g J.bb J.wb W w1) (hf : FlashAt w1 J.g J.bb J.wb F') (hs : Sane F') (hd : F'.sec = F.sec ∧ F'.wear.length = F.wear.length) : JAt w1 J F' s := by
  have hl : J.jb < W.heap.size := World.block_lt_of_cell? _ _ h.c2
  have hjb : w1.heap[J.jb]? = W.heap[J.jb]? := bt.block _ hl h.joff.1 h.joff.2.1 h.joff.2.2
  have hc : ∀ j, w1.cell? ⟨J.jb, j, none⟩ = W.cell? ⟨J.jb, j, none⟩ := fun j => World.cell?_of_block (w := W) hjb
  exact h.turned (s' := s) bt 3 [] (by omega) hf hs hd ((hc 3).trans h.c3) ((hc 4).trans h.c4) ((hc 5).trans h.c5) ((hc 6).trans h.c6) rfl h.vals h.cnt h.ep h.en
/-- A cut laid down while the power is there. -/
theorem cut_sane (F : Fl) (n : Int) (hn : 0 ≤ n) (hd : F.down = false) : Up { F with cut := decide (0 ≤ n), rest := n } := ⟨hd, fun _ => hn⟩
theorem and4095 (x : Int) : bits .and .i64 x 4095 = x % 4096 := by
  show IntKind.i64.wrap ((BitVec.ofInt 64 x &&& BitVec.ofInt 64 4095).toNat : Int) = x % 4096
  rw [BitVec.toNat_and, show (BitVec.ofInt 64 4095).toNat = 2 ^ 12 - 1 from rfl, Nat.and_two_pow_sub_one_eq_mod, BitVec.toNat_ofInt, IntWalk.i64_in _ (by omega)]
  omega
theorem and511k (x : Int) : bits .and .i64 x 511 = x % 512 := by
  show IntKind.i64.wrap ((BitVec.ofInt 64 x &&& BitVec.ofInt 64 511).toNat : Int) = x % 512
  rw [BitVec.toNat_and, show (BitVec.ofInt 64 511).toNat = 2 ^ 9 - 1 from rfl, Nat.and_two_pow_sub_one_eq_mod, BitVec.toNat_ofInt, IntWalk.i64_in _ (by omega)]
  omega
theorem DropPost.but4 {W w' : World} {J : JP} {F : Fl} {s : JS} {key : Int} {e : Ending} (h : DropPost W J F s key e w') : But4 J W w' := by
  unfold DropPost at h
  split at h
  · exact But4.of_below h.2
  · split at h
    · exact But4.of_below h.2
    · obtain ⟨w1, b, D', hb, _, ht⟩ := h
      exact (But4.of_below hb).trans ht.but4
/-- Behind the first opening of an erased flash. -/
theorem open_good {W : World} {g bb wb pa pb m : Nat} {e : Ending} {w' : World} (hm : 16 ≤ m) (hm2 : m ≤ 4096) (hq : PQAt W (QG g bb wb pa pb m) (fresh 4 m)) (hp : MakePost W (QG g bb wb pa pb m) (fresh 4 m) e w') :
    e = .returned (.tuple #[.pointer (some ⟨W.heap.size, 0, none⟩), .int .i64 0]) ∧ ∃ G, Good w' ((QG g bb wb pa pb m).at_ W.heap.size) G (SF m) (2 * m) ∧ On G ∧ ∀ B, B ≤ W.heap.size → B ≤ g → B ≤ bb → B ≤ wb → Below B W w' := by
  obtain ⟨he, G, hj, hl, hbel⟩ := open_fresh hm hm2 hq hp
  have hsv : sizeAll noV = 8 := sizeAll_noV
  refine ⟨he, G, ⟨hj, ⟨hl.on.2, hl.on.sane⟩, ?_, rfl, ?_⟩, hl.on, hbel⟩
  · have := hl.rest
    rw [hsv] at this
    exact this
  · refine laid_settled (J := (QG g bb wb pa pb m).at_ W.heap.size) (gi := 0) (by omega) hl (Nat.le_refl _) hj.vals (by rw [hsv]; omega) (by decide) (by decide) (.inl ?_) (Nat.le_refl _) (Nat.le_refl _) (.inl ?_) rfl rfl (by rw [hsv]; rfl) rfl
    · show 2 * m * 0 + 2 * m ≤ 2 * m * 1; omega
    · intro h0
      have hgr : (grp (fresh 4 m) ((QG g bb wb pa pb m).at_ W.heap.size) (S0 (2 * m)) 1).getD 0 0 = 255 := by
        show (((List.replicate (4 * m) (255 : UInt8)).drop (2 * m * 1 + 0)).take (2 * m)).getD 0 0 = 255
        rw [List.getD_eq_getElem?_getD, List.getElem?_take, if_pos (by omega), List.getElem?_drop, List.getElem?_replicate, if_pos (by omega)]; rfl
      have h0' : (grp (fresh 4 m) ((QG g bb wb pa pb m).at_ W.heap.size) (S0 (2 * m)) 1).getD 0 0 = 0 := h0
      rw [hgr] at h0'
      exact absurd h0' (by decide)
end Go.Proofs.Ytpdlipkmojhnnaa
