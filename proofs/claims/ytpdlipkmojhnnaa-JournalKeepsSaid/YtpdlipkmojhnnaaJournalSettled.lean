/-
  What is laid is taken up as it was; how many bytes what is taken up needs.
-/
/-
  A journal that has been opened: opened once more it is the same.
-/
import Derived.Test.YtpdlipkmojhnnaaJournalStep
import Derived.Test.YtpdlipkmojhnnaaJournalSmall
namespace Go.Proofs.Ytpdlipkmojhnnaa
open Go.RowKit Go.Maps Go.Shelf
set_option maxRecDepth 100000
set_option linter.unusedVariables false
theorem g32_back (x : Int) (h0 : 0 ≤ x) (h1 : x < 4294967296) (r : List UInt8) : g32 (p32 x ++ r) = (x, true) := by
  unfold p32
  simp only [List.cons_append, List.nil_append, g32, ob_val]
  congr 1
  omega
theorem opens_back (l : List UInt8) : opens (seals l) = some l := by
  have hl : (seals l).length = l.length + 4 := by unfold seals; simp [p32]
  have hd : (seals l).drop ((seals l).length - 4) = p32 ((sum l).toNat : Int) ++ [] := by
    rw [hl]; unfold seals; simp
  have ht : (seals l).take ((seals l).length - 4) = l := by
    rw [hl]; unfold seals; simp
  unfold opens
  rw [if_neg (by omega), hd, ht, g32_back _ (by omega) (word_lt _), if_pos rfl]
/-- How many bytes a key's record has. -/
def wt (V : Int → Option (List UInt8)) (k : Nat) : Nat := match V (k : Int) with
  | some l => 7 + l.length
  | none => 0
def sumK (V : Int → Option (List UInt8)) : Nat → Nat
  | 0 => 0
  | n + 1 => sumK V n + wt V n
theorem sumOn_append (V : Int → Option (List UInt8)) (p : Int → Bool) (a b : List Int) : sumOn V p (a ++ b) = sumOn V p a + sumOn V p b := by
  induction a with
  | nil => simp [sumOn]
  | cons x r ih => rw [List.cons_append, sumOn, sumOn, ih]; omega
theorem sumOn_keys (V : Int → Option (List UInt8)) (n : Nat) : sumOn V (fun _ => true) (((List.range n).filter fun k : Nat => (V (k : Int)).isSome).map fun k : Nat => (k : Int)) = sumK V n := by
  induction n with
  | zero => rfl
  | succ n ih =>
    rw [List.range_succ, List.filter_append, List.map_append, sumOn_append, ih, sumK]
    congr 1
    unfold wt
    cases hv : V (n : Int) with
    | none => simp [hv, sumOn]
    | some l => simp [hv, sumOn]
theorem sizeAll_sum (V : Int → Option (List UInt8)) : sizeAll V = 8 + sumK V 32 := by
  unfold sizeAll keysOf keysNat; rw [sumOn_keys]
theorem sumK_drop_le (V : Int → Option (List UInt8)) (k : Int) (n : Nat) : sumK (dropV V k) n ≤ sumK V n := by
  induction n with
  | zero => exact Nat.le_refl _
  | succ n ih =>
    have : wt (dropV V k) n ≤ wt V n := by
      unfold wt dropV
      by_cases e : (n : Int) = k
      · rw [if_pos e]; exact Nat.zero_le _
      · rw [if_neg e]; exact Nat.le_refl _
    rw [sumK, sumK]; omega
theorem wt_put (V : Int → Option (List UInt8)) (k : Nat) (l : List UInt8) (n : Nat) : wt (putV V k l) n = if n = k then 7 + l.length else wt V n := by
  unfold wt putV
  by_cases e : n = k
  · subst e; rw [if_pos rfl, if_pos rfl]
  · rw [if_neg e, if_neg (by omega)]
theorem wt_drop (V : Int → Option (List UInt8)) (k : Nat) (n : Nat) : wt (dropV V k) n = if n = k then 0 else wt V n := by
  unfold wt dropV
  by_cases e : n = k
  · subst e; rw [if_pos rfl, if_pos rfl]
  · rw [if_neg e, if_neg (by omega)]
theorem sumK_put (V : Int → Option (List UInt8)) (k : Nat) (l : List UInt8) (n : Nat) : sumK (putV V k l) n = sumK (dropV V k) n + if k < n then 7 + l.length else 0 := by
  induction n with
  | zero => simp [sumK]
  | succ n ih =>
    rw [sumK, sumK, ih, wt_put, wt_drop]
    by_cases e : n = k
    · subst e; rw [if_pos rfl, if_pos rfl, if_neg (by omega), if_pos (by omega)]; try omega
    · rw [if_neg e, if_neg e]
      by_cases h : k < n
      · rw [if_pos h, if_pos (by omega)]; try omega
      · rw [if_neg h, if_neg (by omega)]; try omega
theorem drop_none {V : Int → Option (List UInt8)} {k : Int} (h : V k = none) : dropV V k = V := by
  funext j
  unfold dropV
  by_cases e : j = k
  · rw [if_pos e, e, h]
  · rw [if_neg e]
theorem drop_drop (V : Int → Option (List UInt8)) (k : Int) : dropV (dropV V k) k = dropV V k := drop_none (by unfold dropV; rw [if_pos rfl])
theorem sizeAll_put {V : Int → Option (List UInt8)} {k : Int} (l : List UInt8) (h0 : 0 ≤ k) (h1 : k < 32) : sizeAll (putV V k l) = sizeAll (dropV V k) + 7 + l.length := by
  obtain ⟨n, rfl⟩ : ∃ n : Nat, k = (n : Int) := ⟨k.toNat, by omega⟩
  rw [sizeAll_sum, sizeAll_sum, sumK_put, if_pos (by omega)]; omega
theorem sizeAll_drop (V : Int → Option (List UInt8)) (k : Int) : sizeAll (dropV V k) ≤ sizeAll V := by
  rw [sizeAll_sum, sizeAll_sum]
  have := sumK_drop_le V k 32
  omega
/-- What is taken up needs no more than there was. -/
theorem takeR_size (l : List UInt8) : ∀ (f : Nat) (V : Int → Option (List UInt8)) (p : Nat), sizeAll V ≤ p → sizeAll (takeR l f V p).1 ≤ (takeR l f V p).2.1
  | 0, V, p, h => h
  | f + 1, V, p, h => by
    rw [takeR]
    split
    · exact h
    · rename_i hr
      split
      · exact h
      · refine takeR_size l f _ _ ?_
        obtain ⟨r1, r2, r3, r4⟩ := recLen_few hr
        have hle := recLen_le (l.drop p)
        unfold stepV
        split
        · have := sizeAll_drop V (((l.drop p).getD 0 0).toNat : Int)
          omega
        · rw [sizeAll_put _ (by omega) (by omega)]
          have := sizeAll_drop V (((l.drop p).getD 0 0).toNat : Int)
          have hl : (((l.drop p).drop 2).take (recLen (l.drop p) - 7)).length = recLen (l.drop p) - 7 := by
            rw [List.length_take, List.length_drop]; omega
          omega
/-- A record at the beginning of bytes. -/
theorem rec_at (V : Int → Option (List UInt8)) (k : Int) (r : List UInt8) (h0 : 0 ≤ k) (h1 : k < 32) (hl : ((V k).getD []).length ≤ 250) :
    recLen (recOf V k ++ [0] ++ r) = 7 + ((V k).getD []).length ∧ opens ((recOf V k ++ [0] ++ r).take (6 + ((V k).getD []).length)) ≠ none ∧ ∀ A, stepV A (recOf V k ++ [0] ++ r) = putV A k ((V k).getD []) := by
  have hlen := recOf_length V k
  obtain ⟨x, hx⟩ : ∃ x, (V k).getD [] = x := ⟨_, rfl⟩
  have hrec : recOf V k = seals (UInt8.ofNat k.toNat :: UInt8.ofNat x.length :: x) := by unfold recOf; rw [hx]
  rw [hx] at hlen hl ⊢
  have e : recOf V k ++ [0] ++ r = UInt8.ofNat k.toNat :: UInt8.ofNat x.length :: (x ++ p32 ((sum (UInt8.ofNat k.toNat :: UInt8.ofNat x.length :: x)).toNat : Int) ++ [0] ++ r) := by
    rw [hrec]; unfold seals; simp
  have g0 : (recOf V k ++ [0] ++ r).getD 0 0 = UInt8.ofNat k.toNat := by rw [e]; rfl
  have g1 : (recOf V k ++ [0] ++ r).getD 1 0 = UInt8.ofNat x.length := by rw [e]; rfl
  have t0 : (UInt8.ofNat k.toNat).toNat = k.toNat := by simp; omega
  have t1 : (UInt8.ofNat x.length).toNat = x.length := by simp; omega
  have v1 : valLen (UInt8.ofNat x.length) = x.length := by unfold valLen; rw [t1, if_neg (by omega)]
  have hz : (recOf V k ++ [0] ++ r).getD (6 + x.length) 0 = 0 := by
    rw [List.getD_eq_getElem?_getD, List.append_assoc, List.getElem?_append_right (by omega), hlen, Nat.sub_self]; rfl
  have hL : (recOf V k ++ [0] ++ r).length = 7 + x.length + r.length := by simp [hlen]; omega
  have hr : recLen (recOf V k ++ [0] ++ r) = 7 + x.length := by
    unfold recLen
    rw [g0, g1, t0, v1, hz, if_neg (by omega), if_neg (by omega), if_neg (by simp; omega)]
  refine ⟨hr, ?_, fun A => ?_⟩
  · have : (recOf V k ++ [0] ++ r).take (6 + x.length) = recOf V k := by
      rw [List.append_assoc, List.take_append_of_le_length (by omega), List.take_of_length_le (by omega)]
    rw [this, hrec, opens_back]
    exact fun e => by cases e
  · unfold stepV
    rw [g0, g1, t0, t1, if_neg (by omega), hr]
    have hk : ((k.toNat : Nat) : Int) = k := by omega
    rw [hk]
    congr 1
    rw [e]
    simp
/-- Values laid over others. -/
def putAll (V A : Int → Option (List UInt8)) (ks : List Int) : Int → Option (List UInt8) := fun k => if k ∈ ks then some ((V k).getD []) else A k
theorem putAll_cons (V A : Int → Option (List UInt8)) (k : Int) (r : List Int) : putAll V (putV A k ((V k).getD [])) r = putAll V A (k :: r) := by
  funext j
  unfold putAll putV
  by_cases h : j ∈ r
  · rw [if_pos h, if_pos (List.mem_cons_of_mem _ h)]
  · rw [if_neg h]
    by_cases e : j = k
    · subst e; rw [if_pos rfl, if_pos (List.mem_cons_self ..)]
    · rw [if_neg e, if_neg (by simp [e, h])]
theorem takeR_back (V : Int → Option (List UInt8)) (l tail : List UInt8) (ht : recLen tail = 0) : ∀ (ks : List Int) (f : Nat) (A : Int → Option (List UInt8)) (p : Nat), (∀ k, k ∈ ks → 0 ≤ k ∧ k < 32 ∧ ((V k).getD []).length ≤ 250) → ks.length ≤ f → l.drop p = recsOf V ks ++ tail →
    takeR l f A p = (putAll V A ks, p + (recsOf V ks).length, 0)
  | [], f, A, p, _, _, hd => by
    have hd' : l.drop p = tail := hd
    rw [takeR_end f (by rw [hd']; exact ht)]
    have : putAll V A [] = A := by funext j; unfold putAll; rw [if_neg (by simp)]
    rw [this]; rfl
  | k :: r, 0, A, p, _, hf, _ => absurd hf (by simp)
  | k :: r, f + 1, A, p, hk, hf, hd => by
    obtain ⟨h0, h1, h2⟩ := hk k (List.mem_cons_self ..)
    have hcons : recsOf V (k :: r) ++ tail = recOf V k ++ [0] ++ (recsOf V r ++ tail) := by
      unfold recsOf; rw [List.flatMap_cons]; simp
    rw [hcons] at hd
    obtain ⟨a1, a2, a3⟩ := rec_at V k (recsOf V r ++ tail) h0 h1 h2
    have hr := recOf_length V k
    rw [takeR_step (by rw [hd, a1]; omega) (by rw [hd, a1, show 7 + ((V k).getD []).length - 1 = 6 + ((V k).getD []).length by omega]; exact a2), hd, a1, a3]
    have hd2 : l.drop (p + (7 + ((V k).getD []).length)) = recsOf V r ++ tail := by
      rw [← List.drop_drop, hd, List.drop_append_of_le_length (by simp [hr]; omega), List.drop_of_length_le (by simp [hr]; omega)]; rfl
    rw [takeR_back V l tail ht r f _ _ (fun j hj => hk j (List.mem_cons_of_mem _ hj)) (by simpa using hf) hd2, putAll_cons]
    have : (recsOf V (k :: r)).length = 7 + ((V k).getD []).length + (recsOf V r).length := by
      unfold recsOf; rw [List.flatMap_cons]; simp [hr]; omega
    rw [this]
    congr 2
    omega
theorem ones_rec (n : Nat) : recLen (List.replicate n 255) = 0 := by
  unfold recLen
  split
  · rfl
  · rename_i h
    rw [List.length_replicate] at h
    have g : (List.replicate n (255 : UInt8)).getD 0 0 = 255 := by rw [List.getD_eq_getElem?_getD, List.getElem?_replicate, if_pos (by omega)]; rfl
    rw [g, if_pos (by decide)]
/-- What has been laid, taken up. -/
theorem take_back {V : Int → Option (List UInt8)} {l : List UInt8} {ep : Int} {n : Nat} (hV : ∀ k, (V k).isSome = true → 0 ≤ k ∧ k < 32) (hs : ∀ k x, V k = some x → x.length ≤ 250) (hl : l = headBytes ep V ++ List.replicate n 255) :
    takeOf l = (V, sizeAll V, 0) := by
  have hh : headBytes ep V ++ List.replicate n 255 = (0 :: p32 ep ++ [255, 255, 255]) ++ (recsOf V (keysOf V) ++ List.replicate n 255) := by
    unfold headBytes; rw [List.append_assoc]
  have hd : l.drop 8 = recsOf V (keysOf V) ++ List.replicate n 255 := by
    rw [hl, hh, List.drop_append_of_le_length (by simp [p32]), List.drop_of_length_le (by simp [p32])]; rfl
  have hlen : l.length = sizeAll V + n := by rw [hl, List.length_append, headBytes_length, List.length_replicate]
  have hkl : (keysOf V).length ≤ l.length := by
    have h1 : sizeAll V = 8 + (recsOf V (keysOf V)).length := by unfold sizeAll; rw [recsOf_length]
    have h2 : (keysOf V).length ≤ (recsOf V (keysOf V)).length := by
      generalize keysOf V = ks
      induction ks with
      | nil => exact Nat.le_refl _
      | cons k r ih =>
        have : (recsOf V (k :: r)).length = (recOf V k).length + 1 + (recsOf V r).length := by unfold recsOf; rw [List.flatMap_cons, List.length_append, List.length_append]; rfl
        rw [this, List.length_cons]; omega
    omega
  unfold takeOf
  rw [takeR_back V l _ (ones_rec n) (keysOf V) l.length noV 8 (fun k hk => ?_) hkl hd]
  · have : putAll V noV (keysOf V) = V := by
      funext j
      unfold putAll
      by_cases h : j ∈ keysOf V
      · rw [if_pos h]
        have := (keysOf_mem hV j).1 h
        obtain ⟨x, hx⟩ := Option.isSome_iff_exists.1 this
        rw [hx]; rfl
      · rw [if_neg h]
        cases hv : V j with
        | none => rfl
        | some x => exact absurd ((keysOf_mem hV j).2 (by rw [hv]; rfl)) h
    rw [this, recsOf_length]; rfl
  · have hsome := (keysOf_mem hV k).1 hk
    obtain ⟨x, hx⟩ := Option.isSome_iff_exists.1 hsome
    exact ⟨(hV k hsome).1, (hV k hsome).2, by rw [hx]; exact hs k x hx⟩
theorem head_epoch {V : Int → Option (List UInt8)} {ep : Int} (h0 : 0 ≤ ep) (h1 : ep < 4294967296) (r : List UInt8) : epOf (headBytes ep V ++ r) = ep := by
  unfold epOf
  have : (headBytes ep V ++ r).drop 1 = p32 ep ++ ([255, 255, 255] ++ recsOf V (keysOf V) ++ r) := by unfold headBytes; simp
  rw [this, g32_back ep h0 h1]
theorem head_whole {V : Int → Option (List UInt8)} {ep : Int} (r : List UInt8) : (headBytes ep V ++ r).getD 0 0 = 0 := rfl
/-- The bytes of a group that has been laid. -/
theorem grp_laid {F G : Fl} {J : JP} {s : JS} {i si : Nat} {ep : Int} {V : Int → Option (List UInt8)} (hL : LaidAt F G (J.be i) si ep V) (hs : s.size ≤ si) (hV : sizeAll V ≤ s.size) : grp G J s i = headBytes ep V ++ List.replicate (s.size - sizeAll V) 255 := by
  refine List.ext_getElem? fun j => ?_
  unfold grp piece
  rw [List.getElem?_take]
  by_cases hj : j < s.size
  · rw [if_pos hj, List.getElem?_drop, Nat.add_zero]
    by_cases hv : j < sizeAll V
    · rw [hL.head j hv, List.getElem?_append_left (by rw [headBytes_length]; exact hv)]
    · rw [hL.rest (J.be i + j) (by omega) (by omega), List.getElem?_append_right (by rw [headBytes_length]; omega), headBytes_length, List.getElem?_replicate, if_pos (by omega)]
  · rw [if_neg hj, List.getElem?_eq_none (by rw [List.length_append, headBytes_length, List.length_replicate]; omega)]
theorem sel_two (F : Fl) (J : JP) (s : JS) : selOf F J s 2 = if (grp F J s 1).getD 0 0 = 0 ∧ ((grp F J s 0).getD 0 0 = 0 → epOf (grp F J s 0) < epOf (grp F J s 1)) then some (1, epOf (grp F J s 1)) else if (grp F J s 0).getD 0 0 = 0 then some (0, epOf (grp F J s 0)) else none := by
  have h1 : selOf F J s 1 = if (grp F J s 0).getD 0 0 = 0 then some (0, epOf (grp F J s 0)) else none := by
    rw [selOf]
    by_cases h : (grp F J s 0).getD 0 0 = 0
    · rw [if_pos ⟨h, fun x hx => by cases hx⟩, if_pos h]
    · rw [if_neg (fun e => h e.1), if_neg h]; rfl
  rw [selOf, h1]
  by_cases ha : (grp F J s 1).getD 0 0 = 0
  · by_cases hb : (grp F J s 0).getD 0 0 = 0
    · rw [if_pos hb]
      by_cases hc : epOf (grp F J s 0) < epOf (grp F J s 1)
      · rw [if_pos ⟨ha, fun x hx => by cases hx; exact hc⟩, if_pos ⟨ha, fun _ => hc⟩]
      · rw [if_neg (fun e => hc (e.2 _ rfl)), if_neg (fun e => hc (e.2 hb))]
    · rw [if_neg hb, if_pos ⟨ha, fun x hx => by cases hx⟩, if_pos ⟨ha, fun e => absurd e hb⟩]
  · simp only [ha, false_and, if_false]
theorem endOf_blk {F : Fl} {p n : Nat} (h : Blk F p (p + n)) : endOf (piece F p n) n = 0 := by
  have hz : ∀ k, k ≤ n → endOf (piece F p n) k = 0 := by
    intro k
    induction k with
    | zero => intro _; rfl
    | succ k ih =>
      intro hk
      have hg : (piece F p n).getD k 0 = 255 := by
        unfold piece
        rw [List.getD_eq_getElem?_getD, List.getElem?_take, if_pos (by omega), List.getElem?_drop, h (p + k) (by omega) (by omega)]; rfl
      unfold endOf
      rw [if_pos hg]
      exact ih (by omega)
  exact hz n (Nat.le_refl _)
/-- Opening it finds just this. -/
structure Settled (G : Fl) (J : JP) (s : JS) (sz : Nat) : Prop where
  sel : selOf G J (S0 sz) 2 = some (s.cnt, s.ep)
  take : takeOf (grp G J (S0 sz) s.cnt) = (s.V, s.en, 0)
  blank : endOf (piece G (J.be s.cnt + s.en) (sz - s.en)) (sz - s.en) = 0
theorem grp_same {F G : Fl} {J : JP} {sz i be si : Nat} {ep : Int} {V : Int → Option (List UInt8)} (hL : LaidAt F G be si ep V) (h : ∀ j, J.be i ≤ j → j < J.be i + sz → ¬ (be ≤ j ∧ j < be + si)) : grp G J (S0 sz) i = grp F J (S0 sz) i := by
  refine List.ext_getElem? fun j => ?_
  unfold grp piece
  rw [List.getElem?_take, List.getElem?_take]
  by_cases hj : j < (S0 sz).size
  · rw [if_pos hj, if_pos hj, List.getElem?_drop, List.getElem?_drop]
    exact hL.out _ (h _ (by omega) (by have : j < sz := hj; omega))
  · rw [if_neg hj, if_neg hj]
theorem laid_settled {F G : Fl} {J : JP} {s : JS} {sz : Nat} {V : Int → Option (List UInt8)} {ep : Int} {W : World} {D : DataW Value} {pn : Option Nat} {gi : Nat} (hgi : gi < 2) (hL : LaidAt F G (J.be gi) (J.si gi) ep V) (hs : sz ≤ J.si gi) (hV : Vals W J.lo pn D V) (hsz : sizeAll V ≤ sz) (h0 : 0 ≤ ep) (h1 : ep < 4294967296)
    (hdis : J.be 0 + J.si 0 ≤ J.be 1 ∨ J.be 1 + J.si 1 ≤ J.be 0) (hs0 : sz ≤ J.si 0) (hs1 : sz ≤ J.si 1)
    (hother : (grp F J (S0 sz) (1 - gi)).getD 0 0 ≠ 0 ∨ epOf (grp F J (S0 sz) (1 - gi)) < ep) (hc : s.cnt = gi) (he : s.ep = ep) (hen : s.en = sizeAll V) (hv : s.V = V) : Settled G J s sz := by
  have hgr : grp G J (S0 sz) gi = headBytes ep V ++ List.replicate (sz - sizeAll V) 255 := grp_laid (s := S0 sz) hL hs hsz
  have hw : (grp G J (S0 sz) gi).getD 0 0 = 0 := by rw [hgr]; exact head_whole _
  have hep : epOf (grp G J (S0 sz) gi) = ep := by rw [hgr]; exact head_epoch h0 h1 _
  refine ⟨?_, ?_, ?_⟩
  · rw [sel_two, hc, he]
    have hg2 : gi = 0 ∨ gi = 1 := by omega
    rcases hg2 with rfl | rfl
    · have ho : grp G J (S0 sz) 1 = grp F J (S0 sz) 1 := grp_same hL (fun j a b => by omega)
      rw [ho, hw, hep, if_pos rfl]
      rcases hother with h | h
      · rw [if_neg (fun e => h e.1)]
      · have h' : epOf (grp F J (S0 sz) 1) < ep := h
        rw [if_neg (fun e => by have := e.2 rfl; omega)]
    · have ho : grp G J (S0 sz) 0 = grp F J (S0 sz) 0 := grp_same hL (fun j a b => by omega)
      rw [ho, hw, hep]
      rcases hother with h | h
      · have h' : (grp F J (S0 sz) 0).getD 0 0 ≠ 0 := h
        rw [if_pos ⟨rfl, fun e => absurd e h'⟩]
      · have h' : epOf (grp F J (S0 sz) 0) < ep := h
        rw [if_pos ⟨rfl, fun _ => h'⟩]
  · rw [hc, hv, hen]
    exact take_back hV.keys hV.short hgr
  · rw [hc, hen]
    exact endOf_blk (blk_less hL.rest (Nat.le_refl _) (by omega))
theorem take_le (l : List UInt8) (h : 8 ≤ l.length) : (takeOf l).2.1 ≤ l.length := takeR_le l l.length noV 8 h
theorem take_size (l : List UInt8) : sizeAll (takeOf l).1 ≤ (takeOf l).2.1 := takeR_size l l.length noV 8 (by rw [sizeAll_noV]; exact Nat.le_refl _)
/-- What Open tells while the power is there. -/
theorem make_on {W : World} {Q : PQ} {F : Fl} {e : Ending} {w' : World} {sz : Nat} (hq : PQAt W Q F) (hon : On F) (hsz : min (Q.si 0) (Q.si 1) = sz) (h32 : 32 ≤ sz) (hdis : Q.be 0 + Q.si 0 ≤ Q.be 1 ∨ Q.be 1 + Q.si 1 ≤ Q.be 0) (hp : MakePost W Q F e w') :
    (∃ ec : Int, ec ≠ 0 ∧ e = .returned (.tuple #[.pointer none, .int .i64 ec]) ∧ Below W.heap.size W w' ∧ ∀ W2 e2 w2, MakePost W2 Q F e2 w2 → e2 = .returned (.tuple #[.pointer none, .int .i64 ec]) ∧ Below W2.heap.size W2 w2) ∨
    (e = .returned (.tuple #[.pointer (some ⟨W.heap.size, 0, none⟩), .int .i64 0]) ∧ (∀ B, B ≤ W.heap.size → B ≤ Q.g → B ≤ Q.bb → B ≤ Q.wb → Below B W w') ∧ ∃ G s', JAt w' (Q.at_ W.heap.size) G s' ∧ On G ∧ s'.size = sz ∧ Settled G (Q.at_ W.heap.size) s' sz) := by
  have hd : ¬ F.down = true := by rw [hon.2]; decide
  have hgl : ∀ i, i < 2 → ∀ n, (grp F (Q.at_ n) (S0 sz) i).length = sz := fun i hi n => by
    have h1 := (hq.ok i hi).fits hq.fl.ok
    have h2 : sz ≤ Q.si i := by
      match i, hi with
      | 0, _ => omega
      | 1, _ => omega
    show ((F.dat.drop (Q.be i + 0)).take sz).length = sz
    rw [List.length_take, List.length_drop]; omega
  unfold MakePost at hp
  rw [if_neg hd, hsz, if_neg (by omega)] at hp
  obtain ⟨w1, ec, hj, hb, ho, he⟩ := hp
  have hlow := hj.low
  have belowOf : ∀ wr, Only w1.heap.size W.heap.size w1 wr → ∀ B, B ≤ W.heap.size → Below B W wr := fun wr hor B h1 => (hb.mono h1).trans (hor.toBelow (Nat.le_trans h1 hb.size) h1)
  unfold OpenPost at ho
  have hJn : ∀ n, selOf F (Q.at_ n) (S0 sz) 2 = selOf F (Q.at_ W.heap.size) (S0 sz) 2 := fun n => rfl
  cases hsel : selOf F (Q.at_ W.heap.size) (S0 sz) 2 with
  | none =>
    rw [hsel] at ho
    obtain ⟨wr, hjr, hor, hl⟩ := ho
    obtain ⟨he2, G, hG, hLa⟩ := lay_ok hjr (nil_vals wr _) hon (by rw [sizeAll_noV]; show 8 ≤ sz; omega) (by omega) (by decide) (by decide) hl
    have hec : ec = 0 := by injection he2 with x; injection x
    subst hec
    rw [if_pos rfl] at he
    refine .inr ⟨he, fun B h1 h2 h3 h4 => (belowOf wr hor B h1).trans (hl.below (Nat.le_trans h1 (Nat.le_trans hb.size hor.size)) h2 h3 h4 h1), G, _, hG, hLa.on, rfl, ?_⟩
    refine laid_settled (J := Q.at_ W.heap.size) (gi := 0) (by omega) hLa (by show sz ≤ Q.si 0; omega) (nil_vals wr (Q.at_ W.heap.size).lo) (by rw [sizeAll_noV]; omega) (by decide) (by decide) hdis (by show sz ≤ Q.si 0; omega) (by show sz ≤ Q.si 1; omega) (.inl ?_) rfl rfl rfl rfl
    intro h1
    rw [sel_two] at hsel
    have h1' : (grp F (Q.at_ W.heap.size) (S0 sz) 1).getD 0 0 = 0 := h1
    by_cases h0 : (grp F (Q.at_ W.heap.size) (S0 sz) 0).getD 0 0 = 0
    · rw [if_pos h0] at hsel
      split at hsel <;> cases hsel
    · rw [if_pos ⟨h1', fun e => absurd e h0⟩] at hsel; cases hsel
  | some x =>
    obtain ⟨c, ep⟩ := x
    have hcl := selOf_lt 2 (c, ep) hsel
    have hc2 : c < 2 := hcl.1
    rw [hsel] at ho
    simp only at ho
    have hte : ∀ n, takeOf (grp F (Q.at_ n) (S0 sz) c) = takeOf (grp F (Q.at_ W.heap.size) (S0 sz) c) := fun n => rfl
    by_cases hbad : (takeOf (grp F (Q.at_ W.heap.size) (S0 sz) c)).2.2 ≠ 0
    · rw [if_pos hbad] at ho
      obtain ⟨ho, hor⟩ := ho
      have hec : ec = (takeOf (grp F (Q.at_ W.heap.size) (S0 sz) c)).2.2 := by injection ho with x; injection x
      refine .inl ⟨ec, by rw [hec]; exact hbad, by rw [he, if_neg (by rw [hec]; exact hbad)], belowOf w' hor _ (Nat.le_refl _), fun W2 e2 w2 hp2 => ?_⟩
      unfold MakePost at hp2
      rw [if_neg hd, hsz, if_neg (by omega)] at hp2
      obtain ⟨v1, ec2, _, hb2, ho2, he2⟩ := hp2
      unfold OpenPost at ho2
      rw [hJn W2.heap.size, hsel] at ho2
      simp only [hte W2.heap.size] at ho2
      rw [if_pos hbad] at ho2
      obtain ⟨ho2, hor2⟩ := ho2
      have hec2 : ec2 = ec := by rw [hec]; injection ho2 with x; injection x
      subst hec2
      exact ⟨by rw [he2, if_neg (by rw [hec]; exact hbad)], hb2.trans (hor2.toBelow hb2.size (Nat.le_refl _))⟩
    · have hok : (takeOf (grp F (Q.at_ W.heap.size) (S0 sz) c)).2.2 = 0 := Classical.not_not.1 hbad
      rw [if_neg hbad] at ho
      obtain ⟨mb, D, wr, hjr, hor, ho⟩ := ho
      have hlen := hgl c hc2 W.heap.size
      have hle := take_le (grp F (Q.at_ W.heap.size) (S0 sz) c) (by omega)
      have hsa := take_size (grp F (Q.at_ W.heap.size) (S0 sz) c)
      obtain ⟨T, hT⟩ : ∃ T, takeOf (grp F (Q.at_ W.heap.size) (S0 sz) c) = T := ⟨_, rfl⟩
      rw [hT] at ho hjr hok hle hsa
      obtain ⟨V, p, ec0⟩ := T
      simp only at ho hjr hok hle hsa
      subst hok
      split at ho
      · rename_i hbl
        obtain ⟨ho, rfl⟩ := ho
        have hec : ec = 0 := by injection ho with x; injection x
        subst hec
        rw [if_pos rfl] at he
        exact .inr ⟨he, fun B h1 _ _ _ => belowOf _ hor B h1, F, _, hjr, hon, rfl, ⟨hsel, hT, hbl⟩⟩
      · rename_i hbl
        rcases ho with ⟨hmx, ho, rfl⟩ | ⟨hmx, hl⟩
        · have hec : ec = 3 := by injection ho with x; injection x
          subst hec
          refine .inl ⟨3, by decide, by rw [he]; rfl, belowOf _ hor _ (Nat.le_refl _), fun W2 e2 w2 hp2 => ?_⟩
          unfold MakePost at hp2
          rw [if_neg hd, hsz, if_neg (by omega)] at hp2
          obtain ⟨v1, ec2, _, hb2, ho2, he2⟩ := hp2
          unfold OpenPost at ho2
          rw [hJn W2.heap.size, hsel] at ho2
          simp only [hte W2.heap.size, hT] at ho2
          rw [if_neg (by decide)] at ho2
          obtain ⟨mb2, D2, wr2, _, hor2, ho2⟩ := ho2
          rw [if_neg (show ¬ endOf (piece F ((Q.at_ W2.heap.size).be c + p) ((S0 sz).size - p)) ((S0 sz).size - p) = 0 from hbl)] at ho2
          rcases ho2 with ⟨_, ho2, rfl⟩ | ⟨hmx2, _⟩
          · have hec2 : ec2 = 3 := by injection ho2 with x; injection x
            subst hec2
            exact ⟨by rw [he2]; rfl, hb2.trans (hor2.toBelow hb2.size (Nat.le_refl _))⟩
          · exact absurd hmx hmx2
        · have hjd := hjr.below (below_drew wr)
          have hep4 := hcl.2
          have hep5 : 0 ≤ ep ∧ ep < 4294967296 := hep4
          have hsz' : sizeAll V ≤ sz := by omega
          obtain ⟨he2, G, hG, hLa⟩ := lay_ok hjd hjd.vals hon hsz' (by omega) (by omega) (by omega) hl
          have hec : ec = 0 := by injection he2 with x; injection x
          subst hec
          rw [if_pos rfl] at he
          refine .inr ⟨he, fun B h1 h2 h3 h4 => (belowOf wr hor B h1).trans (((below_drew wr).mono (Nat.le_trans h1 (Nat.le_trans hb.size hor.size))).trans (hl.below (Nat.le_trans h1 (Nat.le_trans hb.size hor.size)) h2 h3 h4 h1)), G, _, hG, hLa.on, rfl, ?_⟩
          refine laid_settled (J := Q.at_ W.heap.size) (gi := 1 - c) (by omega) hLa ?_ hjd.vals hsz' (by omega) (by omega) hdis (by show sz ≤ Q.si 0; omega) (by show sz ≤ Q.si 1; omega) (.inr ?_) rfl rfl rfl rfl
          · show sz ≤ Q.si (1 - c)
            have : c = 0 ∨ c = 1 := by omega
            rcases this with rfl | rfl
            · show sz ≤ Q.si 1; omega
            · show sz ≤ Q.si 0; omega
          · have hcc : 1 - (1 - c) = c := by omega
            rw [hcc]
            have hepc : epOf (grp F (Q.at_ W.heap.size) (S0 sz) c) = ep := by
              rw [sel_two] at hsel
              split at hsel
              · injection hsel with hsel
                injection hsel with h1 h2
                rw [← h1, h2]
              · split at hsel
                · injection hsel with hsel
                  injection hsel with h1 h2
                  rw [← h1, h2]
                · cases hsel
            rw [hepc]; omega
/-- Opened once more. -/
theorem make_again {W : World} {Q : PQ} {G : Fl} {s : JS} {n : Nat} {e : Ending} {w' : World} {sz : Nat} (hon : On G) (hsz : min (Q.si 0) (Q.si 1) = sz) (h32 : 32 ≤ sz) (hst : Settled G (Q.at_ n) s sz) (hp : MakePost W Q G e w') :
    e = .returned (.tuple #[.pointer (some ⟨W.heap.size, 0, none⟩), .int .i64 0]) ∧ Below W.heap.size W w' ∧ ∃ s', JAt w' (Q.at_ W.heap.size) G s' ∧ s'.size = sz ∧ s'.ep = s.ep ∧ s'.en = s.en ∧ s'.V = s.V := by
  have hd : ¬ G.down = true := by rw [hon.2]; decide
  unfold MakePost at hp
  rw [if_neg hd, hsz, if_neg (by omega)] at hp
  obtain ⟨w1, ec, hj, hb, ho, he⟩ := hp
  unfold OpenPost at ho
  have h1 : selOf G (Q.at_ W.heap.size) (S0 sz) 2 = some (s.cnt, s.ep) := hst.sel
  have h2 : takeOf (grp G (Q.at_ W.heap.size) (S0 sz) s.cnt) = (s.V, s.en, 0) := hst.take
  have h3 : endOf (piece G ((Q.at_ W.heap.size).be s.cnt + s.en) ((S0 sz).size - s.en)) ((S0 sz).size - s.en) = 0 := hst.blank
  rw [h1] at ho
  simp only [h2] at ho
  rw [if_neg (by decide)] at ho
  obtain ⟨mb, D, wr, hjr, hor, ho⟩ := ho
  rw [if_pos h3] at ho
  obtain ⟨ho, rfl⟩ := ho
  have hec : ec = 0 := by injection ho with x; injection x
  subst hec
  rw [if_pos rfl] at he
  exact ⟨he, hb.trans (hor.toBelow hb.size (Nat.le_refl _)), _, hjr, rfl, rfl, rfl, rfl⟩
end Go.Proofs.Ytpdlipkmojhnnaa
