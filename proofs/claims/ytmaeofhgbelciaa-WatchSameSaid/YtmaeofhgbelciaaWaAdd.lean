/-
  A watch added.
-/
import Derived.Test.YtmaeofhgbelciaaWaAll2
import Derived.Test.YtmaeofhgbelciaaRelRow
namespace Go.Proofs.Ytmaeofhgbelciaa
open Go.RowKit
set_option maxRecDepth 100000
set_option maxRecDepth 100000
set_option linter.unusedVariables false
def ownQ (q : Wq) : Wq := { q with t := clampQ q.t, sq := 0 }
def addW (vs : List Wr) (q : Wq) : List Wq × Int :=
  if 8 < q.tok.length ∨ rightP q.pa = false then (vs.map Wr.q, 1)
  else match vs.findIdx? (fun s => hitW q.sv q.tok s.q) with
    | some i => ((vs.map Wr.q).set i (ownQ q), 0)
    | none => if 6 ≤ vs.length then (vs.map Wr.q, 6) else (vs.map Wr.q ++ [ownQ q], 0)
/-- A row that is the old one, or was made since. -/
def RowFrom (w : World) (v v' : Value) : Prop := ∀ k, v'.ownBlock = some k → v.ownBlock = some k ∨ w.heap.size ≤ k
def AddPost (w : World) (tb : Nat) (v : Value) (vs : List Wr) (q : Wq) (e : Ending) (w' : World) : Prop :=
  e = .returned (.int .i64 (addW vs q).2) ∧ ∃ v' vs', WtAt w' tb v' vs' ∧ vs'.map Wr.q = (addW vs q).1 ∧ RowFrom w v v' ∧ Fx tb v.ownBlock w w'
theorem there_cells {w : World} {b o n g : Nat} (vs : List Value) : ∀ (k : Nat) (w : World), w.there b o n → (w.setCells g k vs).there b o n := by
  induction vs with
  | nil => intro k w h; exact h
  | cons v vs ih => intro k w h; exact ih (k + 1) _ (there_set h _ _)
structure OwnAt (w : World) (b : Nat) (s : Wr) : Prop where
  r : w.rangeAt b 0 s.vals
  t : w.there b 0 21
def setT (s : Wr) (t : Int) : Wr := { s with q := { s.q with t := t } }
def setTS (s : Wr) (t sq : Int) : Wr := { s with q := { s.q with t := t, sq := sq } }
theorem OwnAt.turn {w : World} {b : Nat} {s : Wr} (h : OwnAt w b s) (t sq : Int) : OwnAt ((w.setCell ⟨b, 19, none⟩ (.int .i64 t)).setCell ⟨b, 20, none⟩ (.int .i64 sq)) b (setTS s t sq) := by
  have h1 := range_set h.r (show w.there b 0 s.vals.length from h.t) 19 (by show 19 < 21; decide) (.int .i64 t)
  rw [Nat.zero_add] at h1
  have t1 := there_set h.t ⟨b, 19, none⟩ (.int .i64 t)
  have h2 := range_set h1 (show (w.setCell ⟨b, 19, none⟩ (.int .i64 t)).there b 0 (s.vals.set 19 (.int .i64 t)).length by rw [List.length_set]; exact t1) 20 (by rw [List.length_set]; show 20 < 21; decide) (.int .i64 sq)
  rw [Nat.zero_add] at h2
  exact ⟨h2, there_set t1 _ _⟩
/-- What stands where the watch is to be laid: the table as it was, the watch in its variable. -/
structure AdW (w : World) (tb : Nat) (v : Value) (vs : List Wr) (b : Nat) (s : Wr) (W : World) : Prop where
  t : WtAt W tb v vs
  f : Fx tb none w W
  o : OwnAt W b s
  k : Wok W tb s ∧ Wsm s ∧ Wtm s
  l : tb < b ∧ b < W.heap.size
  n : v.ownBlock ≠ some b
theorem own_new (w4 : World) (s' : Wr) : Below w4.heap.size w4 ((w4.alloc (.cells #[.int .i64 0, .slice none 0 0, .slice none 0 0, .int .i64 0, .int .i64 0, .bool false, .bool false, .int .i64 0, .int .i64 0, .int .i64 0, .bool false, .bool false, .bool false, .int .i64 0, .int .i64 0, .string ⟨#[]⟩, .slice none 0 0, .int .i64 0, .int .i64 0, .int .i64 0, .int .i64 0] 37)).setCells w4.heap.size 0 s'.vals) ∧ ((w4.alloc (.cells #[.int .i64 0, .slice none 0 0, .slice none 0 0, .int .i64 0, .int .i64 0, .bool false, .bool false, .int .i64 0, .int .i64 0, .int .i64 0, .bool false, .bool false, .bool false, .int .i64 0, .int .i64 0, .string ⟨#[]⟩, .slice none 0 0, .int .i64 0, .int .i64 0, .int .i64 0, .int .i64 0] 37)).setCells w4.heap.size 0 s'.vals).heap.size = w4.heap.size + 1 ∧ OwnAt ((w4.alloc (.cells #[.int .i64 0, .slice none 0 0, .slice none 0 0, .int .i64 0, .int .i64 0, .bool false, .bool false, .int .i64 0, .int .i64 0, .int .i64 0, .bool false, .bool false, .bool false, .int .i64 0, .int .i64 0, .string ⟨#[]⟩, .slice none 0 0, .int .i64 0, .int .i64 0, .int .i64 0, .int .i64 0] 37)).setCells w4.heap.size 0 s'.vals) w4.heap.size s' := by
  have hthn : (w4.alloc (.cells #[.int .i64 0, .slice none 0 0, .slice none 0 0, .int .i64 0, .int .i64 0, .bool false, .bool false, .int .i64 0, .int .i64 0, .int .i64 0, .bool false, .bool false, .bool false, .int .i64 0, .int .i64 0, .string ⟨#[]⟩, .slice none 0 0, .int .i64 0, .int .i64 0, .int .i64 0, .int .i64 0] 37)).there w4.heap.size 0 21 := there_new w4 _ _ rfl
  exact ⟨(alloc_below w4 (.cells #[.int .i64 0, .slice none 0 0, .slice none 0 0, .int .i64 0, .int .i64 0, .bool false, .bool false, .int .i64 0, .int .i64 0, .int .i64 0, .bool false, .bool false, .bool false, .int .i64 0, .int .i64 0, .string ⟨#[]⟩, .slice none 0 0, .int .i64 0, .int .i64 0, .int .i64 0, .int .i64 0] 37)).trans (below_setCells (Below.refl w4.heap.size (w4.alloc (.cells #[.int .i64 0, .slice none 0 0, .slice none 0 0, .int .i64 0, .int .i64 0, .bool false, .bool false, .int .i64 0, .int .i64 0, .int .i64 0, .bool false, .bool false, .bool false, .int .i64 0, .int .i64 0, .string ⟨#[]⟩, .slice none 0 0, .int .i64 0, .int .i64 0, .int .i64 0, .int .i64 0] 37))) (b := w4.heap.size) (Nat.le_refl _) s'.vals 0), by rw [size_setCells', alloc_size], range_stored hthn, there_cells (w := w4) _ _ _ hthn⟩
theorem WtAt.put {w : World} {tb g n c kk : Nat} {vs : List Wr} {s : Wr} (h : WtAt w tb (.slice (some ⟨g, 0, none⟩) n c) vs) (hk : kk < vs.length) (hs : Wok w tb s ∧ Wsm s ∧ Wtm s) : WtAt (w.setCells g (kk * 21) s.vals) tb (.slice (some ⟨g, 0, none⟩) n c) (vs.set kk s) ∧ w.grownBy (w.setCells g (kk * 21) s.vals) (some g) ∧ w.there g (kk * 21) 21 ∧ tb ≤ g ∧ g < w.heap.size ∧ g ≠ tb := by
  obtain ⟨A, c', e, _, _, _, hbas⟩ := h.open_
  have e' := e
  injection e with e1 e2 e3
  subst e1 e2 e3
  obtain ⟨g', e4, hg⟩ := hbas _ rfl
  injection e4 with e4 _ _
  subst e4
  have hr := RowK.own_set (K := wK) h.row kk s hk
  have hth := RowK.own_there (K := wK) h.row (kk * 21) 21 (by have : (kk + 1) * 21 ≤ vs.length * 21 := Nat.mul_le_mul_right _ (by omega); omega)
  have hne : g ≠ tb := fun e => h.row_ne (by rw [← e]; rfl)
  refine ⟨⟨(hr.2.block tb h.lt (fun e => hne (by injection e with e; exact e.symm))).trans h.blk, by rw [List.length_set]; exact hr.1, fun x hx => ?_, by rw [List.length_set]; exact h.few⟩, hr.2, hth, hg, (h.row.lt g rfl).2, hne⟩
  rcases List.mem_or_eq_of_mem_set hx with hx | rfl
  · exact ⟨(h.each x hx).1.grown h.row hr.2, (h.each x hx).2⟩
  · exact ⟨hs.1.grown h.row hr.2, hs.2⟩
/-- The row that has been made: one more at its end. -/
def WP (w2 : World) (tb : Nat) (v : Value) (vs : List Wr) (s : Wr) (W : World) (x : Value) : Prop :=
  W.ownsRow tb 37 21 x (vs.length + 1) (wK.all (vs ++ [s])) ∧ x.ownBlock ≠ some tb ∧ RowFrom w2 v x
theorem WP.keep {w2 : World} {tb : Nat} {v : Value} {vs : List Wr} {s : Wr} (w w' : World) (x : Value) (hf : Fx tb none w w') (h : WP w2 tb v vs s w x) : WP w2 tb v vs s w' x := by
  obtain ⟨h1, h2, h3⟩ := h
  exact ⟨hf.row_ h1 h2 (own_no _), h2, h3⟩
theorem WP.slice_ {w2 : World} {tb : Nat} {v : Value} {vs : List Wr} {s : Wr} {w : World} {x : Value} (h : WP w2 tb v vs s w x) : ∃ A n c, x = .slice A n c := by
  obtain ⟨A, c, e, _⟩ := RowK.At.of_own h.1
  exact ⟨A, _, c, e⟩
def AR (w2 : World) (tb : Nat) (v : Value) (s : Wr) (g : Option Value) (k : Nat) (w : World) (x : Value) : Prop :=
  match k with
  | 0 | 1 | 2 | 3 | 8 | 9 => x = .pointer (some ⟨tb, 0, none⟩)
  | 4 => x = v
  | 5 => x = .agg s.vals.toArray
  | 6 => ∃ vb, x = .slice (some ⟨vb, 0, none⟩) 1 1 ∧ (w2.heap.size ≤ vb ∧ vb < w.heap.size) ∧ w.heap[vb]? = some (.cells s.vals.toArray 37)
  | 7 => g = some x
  | _ => True
theorem AR.grow {w2 : World} {tb : Nat} {v : Value} {s : Wr} (htb : tb < w2.heap.size) (hrow : ∀ k, v.ownBlock = some k → k < w2.heap.size) (k : Nat) (g : Option Value) (w : World) (g' : Option Value) (w' : World) (x : Value) (hT : WT tb v.ownBlock g w g' w') (h : AR w2 tb v s g k w x) : AR w2 tb v s g' k w' x := by
  unfold AR at h ⊢
  split at h
  all_goals first
    | exact h
    | exact (hT.2 x h).1
    | (obtain ⟨vb, h1, h2, h3⟩ := h
       exact ⟨vb, h1, ⟨h2.1, Nat.lt_of_lt_of_le h2.2 hT.1.size⟩, (hT.1.block vb h2.2 (by omega) (fun e => by have := hrow vb e.symm; omega)).trans h3⟩)
def PutR (tb b : Nat) (v : Value) (vs : List Wr) (s : Wr) (kk g : Nat) (i : Nat) (W : World) (x : Value) : Prop :=
  match i with
  | 0 | 1 | 2 => x = .pointer (some ⟨tb, 0, none⟩)
  | 3 => x = v
  | 4 => x = .int .i64 (kk : Int)
  | 5 => x = .agg s.vals.toArray
  | 6 => x = .pointer (some ⟨g, kk * 21, none⟩)
  | 7 => WtAt W tb v (vs.set kk s)
  | _ => True
theorem putr_up {tb b : Nat} {v : Value} {vs : List Wr} {s : Wr} {kk g : Nat} (i : Nat) (W W' : World) (x : Value) (hT : WtAt W tb v (vs.set kk s) → WtAt W' tb v (vs.set kk s)) (h : PutR tb b v vs s kk g i W x) : PutR tb b v vs s kk g i W' x := by
  unfold PutR at h ⊢
  split at h <;> first | exact h | exact hT h | trivial
/-- While the watch is laid at its place. -/
def PutS (w2 : World) (tb b : Nat) (v : Value) (vs : List Wr) (s : Wr) (kk : Nat) (W : World) : Prop :=
  Fx tb v.ownBlock w2 W ∧ OwnAt W b s ∧ (WtAt W tb v vs ∨ WtAt W tb v (vs.set kk s)) ∧ (Wok W tb s ∧ Wsm s ∧ Wtm s)
theorem OwnAt.keep {w w' : World} {b : Nat} {s : Wr} (h : OwnAt w b s) (hb : w'.heap[b]? = w.heap[b]?) : OwnAt w' b s :=
  ⟨fun j u hj => (World.cell?_of_block hb).trans (h.r j u hj), fun j hj => by
    have := h.t j hj
    rw [World.cell?_of_block hb]
    refine ⟨this.1, ?_⟩
    rw [← this.2]
    unfold World.frozen?
    rw [hb]⟩
theorem PutS.cell {w2 W : World} {tb b kk : Nat} {v : Value} {vs : List Wr} {s : Wr} (h : PutS w2 tb b v vs s kk W) : W.cell? ⟨tb, 0, none⟩ = some v := by
  rcases h.2.2.1 with h | h <;> exact h.cell0
theorem PutS.put {w2 W : World} {tb b kk g n c : Nat} {vs : List Wr} {s : Wr} (h : PutS w2 tb b (.slice (some ⟨g, 0, none⟩) n c) vs s kk W) (hk : kk < vs.length) (hb : g ≠ b) (hbl : b < W.heap.size) : W.there g (kk * 21) 21 ∧ PutS w2 tb b (.slice (some ⟨g, 0, none⟩) n c) vs s kk (W.setCells g (kk * 21) s.vals) ∧ WtAt (W.setCells g (kk * 21) s.vals) tb (.slice (some ⟨g, 0, none⟩) n c) (vs.set kk s) := by
  obtain ⟨h1, h2, h3, h4⟩ := h
  have key : ∃ vs1, WtAt W tb (.slice (some ⟨g, 0, none⟩) n c) vs1 ∧ kk < vs1.length ∧ vs1.set kk s = vs.set kk s := by
    rcases h3 with h3 | h3
    · exact ⟨vs, h3, hk, rfl⟩
    · exact ⟨_, h3, by rw [List.length_set]; exact hk, by rw [List.set_set]⟩
  obtain ⟨vs1, hw, hk1, he⟩ := key
  obtain ⟨p1, p2, p3, _⟩ := hw.put hk1 h4
  rw [he] at p1
  exact ⟨p3, ⟨h1.trans (Fx.grown p2), h2.keep (p2.block b hbl (fun e => hb (by injection e with e; exact e.symm))), .inr p1, h4.1.grown hw.row p2, h4.2⟩, p1⟩
set_option maxHeartbeats 8000000 in
theorem wadd_f {tb : Nat} {v : Value} {vs : List Wr} {w : World} (h : WtAt w tb v vs) (s : Wr) (B : Nat) (hs : Wrd w B s) (hB : B ≤ w.heap.size) (hsm : Wsm s) (hn64 : In64 s.q.v.n) :
    Calls Try.prog 11 #[.pointer (some ⟨tb, 0, none⟩), .agg s.vals.toArray] w (AddPost w tb v vs s.q) := by
  obtain ⟨i0, hi0, hz0, hz1, hz2⟩ := info_parts info_wr
  obtain ⟨R, hR⟩ : ∃ R, addW vs s.q = R := ⟨_, rfl⟩
  unfold AddPost
  rw [hR]
  unfold addW at hR
  obtain ⟨S, hS⟩ : ∃ S, S = s := ⟨_, rfl⟩
  obtain ⟨⟨sv, tok, pa, ⟨ca, cb, cha, chb, cg, cl, cs, chg, chl, chs⟩, ⟨k, m, str, l, o, i⟩, t, sq⟩, tA, tn, tc, pA, pn, pc, bA, bn, bc⟩ := s
  obtain ⟨W1, hW1⟩ : ∃ W1, w.alloc (.cells #[.int .i64 sv, .slice tA tn tc, .slice pA pn pc, .int .i64 ca, .int .i64 cb, .bool cha, .bool chb, .int .i64 cg, .int .i64 cl, .int .i64 cs, .bool chg, .bool chl, .bool chs, .int .i64 k, .int .i64 m, .string str, .slice bA bn bc, .int .i64 o, .int .i64 i, .int .i64 t, .int .i64 sq] 37) = W1 := ⟨_, rfl⟩
  have hb1 : Below w.heap.size w W1 := by rw [← hW1]; exact alloc_below w _
  have hz9 : W1.heap.size = w.heap.size + 1 := by rw [← hW1, alloc_size]
  have r1 : W1.rangeAt w.heap.size 0 [.int .i64 sv, .slice tA tn tc, .slice pA pn pc, .int .i64 ca, .int .i64 cb, .bool cha, .bool chb, .int .i64 cg, .int .i64 cl, .int .i64 cs, .bool chg, .bool chl, .bool chs, .int .i64 k, .int .i64 m, .string str, .slice bA bn bc, .int .i64 o, .int .i64 i, .int .i64 t, .int .i64 sq] := by rw [← hW1]; exact range_newV w _ _ rfl
  have h1 := h.below hb1
  have hs1 := hs.below (hb1.mono hB)
  have htl := hs.1.len
  have hrt := pright_f pA pn pc pa W1 B hs1.2.1 (by omega)
  dsimp only at hR htl hrt
  rw [htl] at hR
  dsimp only [Wr.vals]
  have HH := Lib.hid (And.intro hb1 (And.intro r1 (And.intro h1 (And.intro hs1 (And.intro hsm (And.intro hn64 (And.intro h (And.intro hz9 hB))))))))
  have HW := Lib.hid hW1
  have HS := Lib.hid hS
  have hlt := h.lt
  clear hb1 r1 h1 hs1 hsm hn64 hW1 hs h htl hS hz9
  by_cases h8 : 8 < tn
  · have h8I : (8 : Int) < tn := by omega
    rw [if_pos (.inl h8)] at hR
    subst hR
    clear hrt
    go_enter Try.func11, Try.ntmps11
    go_wp2
    go_ret
    exact ⟨rfl, v, vs, by have := HH.out.2.2.1; rw [← HW.out] at this; exact this, rfl, fun k hk => .inl hk, Fx.below (alloc_below w _)⟩
  have h8I : ¬ (8 : Int) < tn := by omega
  cases hq : rightP pa with
  | false =>
    rw [hq] at hrt hR
    rw [if_pos (.inr rfl)] at hR
    subst hR
    have HR := Lib.hid hrt
    clear hrt hq
    go_enter Try.func11, Try.ntmps11
    go_wp2_with fail
    rw [HW.out]
    refine HR.out.mono ?_
    rintro e w2 ⟨rfl, b2⟩
    have H2 := Lib.hid b2
    clear b2
    try dsimp only
    go_wp2
    go_ret
    exact ⟨rfl, v, vs, HH.out.2.2.1.below H2.out, rfl, fun k hk => .inl hk, Fx.below (HH.out.1.trans (H2.out.mono HH.out.1.size))⟩
  | true =>
    rw [hq] at hrt hR
    rw [if_neg (by rintro (h | h); exact h8 h; cases h)] at hR
    have HR := Lib.hid (And.intro hrt hq)
    clear hrt hq
    go_enter Try.func11, Try.ntmps11
    go_wp2_with fail
    rw [HW.out]
    refine HR.out.1.mono ?_
    rintro e w2 ⟨rfl, b2⟩
    have h2 := HH.out.2.2.1.below b2
    have hs2 := HH.out.2.2.2.1.below (b2.mono (by have := HH.out.2.2.2.2.2.2.2.2; have := HH.out.2.2.2.2.2.2.2.1; omega))
    have r2 := range_below HH.out.2.1 b2 (by have := HH.out.2.2.2.2.2.2.2.1; omega)
    have d0 := r2 0 _ rfl
    have d1 := r2 1 _ rfl
    rw [Nat.zero_add] at d0 d1
    have H2 := Lib.hid (And.intro b2 (And.intro h2 (And.intro hs2 r2)))
    clear b2 h2 hs2 r2
    try dsimp only
    go_wp2_with fail
    have cf := wfind_f H2.out.2.1 sv tA tn tc tok (H2.out.2.2.1.1.more (by have := HH.out.2.2.2.2.2.2.2.2; have := HH.out.2.2.2.2.2.2.2.1; have := H2.out.1.size; omega))
    refine cf.mono ?_
    rintro e w3 ⟨rfl, b3⟩
    have h3 := H2.out.2.1.below b3
    have hs3 := H2.out.2.2.1.below (b3.mono (by have := HH.out.2.2.2.2.2.2.2.2; have := HH.out.2.2.2.2.2.2.2.1; have := H2.out.1.size; omega))
    have hz3 : w.heap.size + 1 ≤ w2.heap.size := by have := H2.out.1.size; have := HH.out.2.2.2.2.2.2.2.1; omega
    have r3 := range_below H2.out.2.2.2 b3 (by omega)
    have b13 := HH.out.1.trans ((H2.out.1.trans (b3.mono H2.out.1.size)).mono HH.out.1.size)
    have hz33 : w.heap.size + 1 ≤ w3.heap.size := by have := b3.size; omega
    have H3 := Lib.hid (And.intro b13 (And.intro h3 (And.intro hs3 (And.intro r3 hz33))))
    clear b3 cf h3 hs3 r3 b13 hz3 hz33 d0 d1
    have hlen := wlen_f H3.out.2.1
    obtain ⟨n0, hn0⟩ : ∃ n0, vs.length = n0 := ⟨_, rfl⟩
    rw [hn0] at hlen
    have HN := Lib.hid (And.intro hlen hn0)
    clear hlen
    rcases idxW_cases (hitW sv tok) vs with ⟨hm1, hall⟩ | ⟨kk, s0, hk1, hk2, hk3, hk4⟩
    · have hfi : vs.findIdx? (fun s => hitW sv tok s.q) = none := by rw [List.findIdx?_eq_none_iff]; exact hall
      rw [hfi] at hR
      rw [hm1]
      by_cases h6 : 6 ≤ n0
      · have h6I : (6 : Int) ≤ n0 := by omega
        replace hR : (if 6 ≤ vs.length then (vs.map Wr.q, 6) else (vs.map Wr.q ++ [ownQ ⟨sv, tok, pa, ⟨ca, cb, cha, chb, cg, cl, cs, chg, chl, chs⟩, ⟨k, m, str, l, o, i⟩, t, sq⟩], 0)) = R := hR
        rw [if_pos (by rw [hn0]; exact h6)] at hR
        subst hR
        clear hall hfi hm1 hn0
        try dsimp only
        go_wp2_with fail
        refine HN.out.1.mono ?_
        rintro e w4 ⟨rfl, hw⟩
        obtain rfl := hw.symm
        try dsimp only
        go_wp2
        go_ret
        exact ⟨rfl, v, vs, H3.out.2.1, rfl, fun k hk => .inl hk, Fx.below H3.out.1⟩
      · have h6I : ¬ (6 : Int) ≤ n0 := by omega
        replace hR : (if 6 ≤ vs.length then (vs.map Wr.q, 6) else (vs.map Wr.q ++ [ownQ ⟨sv, tok, pa, ⟨ca, cb, cha, chb, cg, cl, cs, chg, chl, chs⟩, ⟨k, m, str, l, o, i⟩, t, sq⟩], 0)) = R := hR
        rw [if_neg (by rw [hn0]; exact h6)] at hR
        subst hR
        clear hall hfi hm1 hn0
        try dsimp only
        go_wp2_with fail
        refine HN.out.1.mono ?_
        rintro e w4 ⟨rfl, hw⟩
        obtain rfl := hw.symm
        try dsimp only
        have HCL := Lib.hid (wclone_f ⟨⟨sv, tok, pa, ⟨ca, cb, cha, chb, cg, cl, cs, chg, chl, chs⟩, ⟨k, m, str, l, o, i⟩, t, sq⟩, tA, tn, tc, pA, pn, pc, bA, bn, bc⟩ w3 B H3.out.2.2.1 (by have := H3.out.2.2.2.2; have := HH.out.2.2.2.2.2.2.2.2; omega) HH.out.2.2.2.2.1)
        go_wp2_with (first
          | (refine wpList_load_mid rfl 37 (.tmp 3) rfl w.heap.size 0 rfl [.int .i64 sv, .slice tA tn tc, .slice pA pn pc, .int .i64 ca, .int .i64 cb, .bool cha, .bool chb, .int .i64 cg, .int .i64 cl, .int .i64 cs, .bool chg, .bool chl, .bool chs, .int .i64 k, .int .i64 m, .string str, .slice bA bn bc, .int .i64 o, .int .i64 i, .int .i64 t, .int .i64 sq] _ H3.out.2.2.2.1 Try.underlying37 rfl size_wr ?_)
          | (go_at_call 34; refine HCL.out.mono ?_; rintro e w4 ⟨s', hv4, hq', hok', hsm', b4⟩; obtain rfl := hv4; have hthn : (w4.alloc (.cells #[.int .i64 0, .slice none 0 0, .slice none 0 0, .int .i64 0, .int .i64 0, .bool false, .bool false, .int .i64 0, .int .i64 0, .int .i64 0, .bool false, .bool false, .bool false, .int .i64 0, .int .i64 0, .string ⟨#[]⟩, .slice none 0 0, .int .i64 0, .int .i64 0, .int .i64 0, .int .i64 0] 37)).there w4.heap.size 0 21 := there_new w4 _ _ rfl; have H4 := Lib.hid (And.intro hq' (And.intro hok' (And.intro hsm' b4))); clear hq' hok' hsm' b4)
          | (refine wpList_store_mid rfl 37 (.tmp 6) (.tmp 31) rfl w4.heap.size 0 s'.vals.toArray rfl rfl hthn size_wr (all_oneCell_toArray (wK.one s')) ?_
             refine gen_world (F := fun W => wpList Try.prog _ _ _ _ W) (fun W => Below w4.heap.size w4 W ∧ W.heap.size = w4.heap.size + 1 ∧ OwnAt W w4.heap.size s') (own_new w4 s') ?_
             rintro w5 ⟨b5, z5, o5⟩
             have y19 := (range_below (range_below H3.out.2.2.2.1 H4.out.2.2.2 (by have := H3.out.2.2.2.2; omega)) b5 (by have := H4.out.2.2.2.size; have := H3.out.2.2.2.2; omega)) 19 (.int .i64 t) rfl
             rw [Nat.zero_add] at y19
             have x19 := (o5.t 19 (by decide))
             have x20 := (o5.t 20 (by decide))
             rw [Nat.zero_add] at x19 x20
             obtain ⟨u19, hu19⟩ := Option.isSome_iff_exists.1 x19.1
             obtain ⟨u20, hu20⟩ := Option.isSome_iff_exists.1 x20.1
             have x19f := x19.2
             have x20f := x20.2
             have H5 := Lib.hid (And.intro b5 (And.intro z5 o5))
             clear b5 z5 o5 x19 x20)
          | (go_at_call 30; refine (clamp_f t _).mono ?_; rintro e w6 ⟨rfl, hw⟩; subst hw))
        have bL := (H5.out.1.setCell (p := ⟨w4.heap.size, 19, none⟩) (Nat.le_refl _) (.int .i64 (clampQ t))).setCell (p := ⟨w4.heap.size, 20, none⟩) (Nat.le_refl _) (.int .i64 0)
        have b3L := H4.out.2.2.2.trans (bL.mono H4.out.2.2.2.size)
        have b0L := H3.out.1.trans (b3L.mono H3.out.1.size)
        have hA9 : AdW w tb v vs w4.heap.size (setTS s' (clampQ t) 0) ((w6.setCell ⟨w4.heap.size, 19, none⟩ (.int .i64 (clampQ t))).setCell ⟨w4.heap.size, 20, none⟩ (.int .i64 0)) := by
          have hz34 := H4.out.2.2.2.size
          have hz03 := H3.out.1.size
          refine ⟨H3.out.2.1.below b3L, Fx.below b0L, H5.out.2.2.turn _ _, ⟨?_, H4.out.2.2.1, clampQ_in t, ⟨by show (0 : Int) ≤ 0; decide, by show (0 : Int) < 16777216; decide⟩, ?_⟩, ⟨by omega, ?_⟩, fun e => ?_⟩
          · exact ((H4.out.2.1).below bL).mono (by omega)
          · show In64 s'.q.v.n
            rw [H4.out.1]
            exact HH.out.2.2.2.2.2.1
          · rw [World.size_setCell, World.size_setCell, H5.out.2.1]; omega
          · have := (HH.out.2.2.2.2.2.2.1.row.lt _ e).2; omega
        refine gen_world (F := fun W => Code.wp Try.prog _ _ _ W) (fun W => AdW w tb v vs w4.heap.size (setTS s' (clampQ t) 0) W) hA9 ?_
        rintro w9 hA9
        obtain ⟨S9, hS9⟩ : ∃ S9, setTS s' (clampQ t) 0 = S9 := ⟨_, rfl⟩
        have hq9 : S9.q = ownQ ⟨sv, tok, pa, ⟨ca, cb, cha, chb, cg, cl, cs, chg, chl, chs⟩, ⟨k, m, str, l, o, i⟩, t, sq⟩ := by
          rw [← hS9]
          show ({ s'.q with t := clampQ t, sq := 0 } : Wq) = _
          rw [H4.out.1]; rfl
        rw [hS9] at hA9
        have H9 := Lib.hid (And.intro hA9 hq9)
        clear hA9 hq9 hS9 bL b3L b0L y19 hu19 hu20 x19f x20f H5
        have HW9 := Lib.hid (And.intro H9.out.1.t (And.intro H9.out.1.t.lt (fun k (hk : v.ownBlock = some k) => (H9.out.1.t.row.lt k hk).2)))
        have hPk : ∀ w w' x, Fx tb none w w' → WP w9 tb v vs S9 w x → WP w9 tb v vs S9 w' x := WP.keep
        refine wp_region_relG2 (WS w9 tb 68 (fun x => #[x]) v.ownBlock (WP w9 tb v vs S9) 4 7 10) (WT tb v.ownBlock) (AR w9 tb v S9) [(0, .pointer (some ⟨tb, 0, none⟩)), (6, .pointer (some ⟨w4.heap.size, 0, none⟩))] (by kernel_rfl) (by kernel_rfl) (by kernel_rfl) ?base none (WS.first w9) (AR.grow HW9.out.2.1 HW9.out.2.2) ?steps ?fin
        case base =>
          intro x hx
          simp only [List.mem_cons, List.not_mem_nil, or_false] at hx
          rcases hx with rfl | rfl <;> exact ⟨rfl, rfl⟩
        case steps =>
          refine steps_cons ?_ (steps_cons ?_ (steps_cons ?_ (steps_cons ?_ (steps_cons ?_ (steps_cons ?_ (steps_cons ?_ (steps_cons ?_ (steps_cons ?_ (steps_cons ?_ (steps_cons ?_ steps_nil))))))))))
          · intro a wx L g K hLi hLd hS hB hR hK
            rw [if_pos (wanted_none rfl)]
            have h0 := tmp_is (hB.1)
            go_simp
            exact hK (.pointer (some ⟨tb, 0, none⟩)) wx g (hS.quiet 0 (by decide) (by decide)) (WT.refl _ _) rfl
          · intro a wx L g K hLi hLd hS hB hR hK
            rw [if_pos (wanted_none rfl)]
            have h0 := tmp_is (hB.1)
            go_simp
            exact hK (.pointer (some ⟨tb, 0, none⟩)) wx g (hS.quiet 1 (by decide) (by decide)) (WT.refl _ _) rfl
          · intro a wx L g K hLi hLd hS hB hR hK
            rw [if_pos (wanted_none rfl)]
            have h40 := tmp_is (hR.1)
            go_simp
            exact hK (.pointer (some ⟨tb, 0, none⟩)) wx g (hS.quiet 2 (by decide) (by decide)) (WT.refl _ _) rfl
          · intro a wx L g K hLi hLd hS hB hR hK
            rw [if_pos (wanted_none rfl)]
            have h41 := tmp_is (hR.1)
            go_simp
            exact hK (.pointer (some ⟨tb, 0, none⟩)) wx g (hS.quiet 3 (by decide) (by decide)) (WT.refl _ _) rfl
          · intro a wx L g K hLi hLd hS hB hR hK
            rw [if_pos (wanted_none rfl)]
            have h42 := tmp_is (hR.1)
            have hc := ((hS.old hLi).cell (p := ⟨tb, 0, none⟩) HW9.out.2.1).trans HW9.out.1.cell0
            go_simp
            exact hK v wx g (hS.quiet 4 (by decide) (by decide)) (WT.refl _ _) rfl
          · intro a wx L g K hLi hLd hS hB hR hK
            rw [if_pos (wanted_none rfl)]
            have hrg : wx.rangeAt w4.heap.size 0 S9.vals := fun j u hj => (hS.fr.cell H9.out.1.l.2 (by have := H9.out.1.l.1; omega) (fun e => H9.out.1.n e.symm) (0 + j)).trans (H9.out.1.o.r j u hj)
            refine wp_load_mid 37 (.tmp 6) (by rfl) w4.heap.size 0 (hB.2.1) S9.vals _ hrg Try.underlying37 rfl size_wr ?_
            exact hK (.agg S9.vals.toArray) wx g (hS.quiet 5 (by decide) (by decide)) (WT.refl _ _) rfl
          · intro a wx L g K hLi hLd hS hB hR hK
            rw [if_pos (wanted_none rfl)]
            refine wp_buildSlice 38 37 1 #[(0, .tmp 44)] (by rfl) S9.vals.toArray i0 _ Try.underlying38 hi0 hz0 (by rw [hz1]; decide) (by rw [hz1]; decide) (build_wr _ S9 _ (show a.eval (.tmp 44) = .agg S9.vals.toArray from hR.1) i0 hz0 hz1) ?_
            exact hK (.slice (some ⟨wx.heap.size, 0, none⟩) 1 1) _ g (hS.call hPk HW9.out.2.1 6 (by decide : 7 ≠ 6) (by decide : 10 ≠ 6) (alloc_below wx _)) (WT.below (alloc_below wx _)) ⟨wx.heap.size, rfl, ⟨hS.fr.size, by rw [alloc_size]; omega⟩, heap_alloc_new wx _⟩
          · intro a wx L g K hLi hLd hS hB hR hK
            rw [if_pos (wanted_none rfl)]
            obtain ⟨vb, hv45, hvl, hvb⟩ := hR.2.1
            have hbe := (hS.early hLi).2
            have hrw := rk_below HW9.out.1.row hbe
            have hvals : ∀ j u, (wK.vals S9)[j]? = some u → wx.cell? ((⟨vb, 0, none⟩ : Addr).add j) = some u := fun j u hu => by rw [rk_add, cell_of_row _ _ _ _ _ _ hvb, Nat.zero_add, ← Array.getElem?_toList]; exact hu
            refine wp_append_from wx (.tmp 43) (.tmp 45) 38 rfl tb 37 i0 _ 21 200 Try.underlying38 hi0 hz0 hz1 hz2 rfl (by decide) v vs.length (wK.all vs) hR.1 hrw ⟨vb, 0, none⟩ 1 1 (wK.vals S9) hv45 rfl hvals (wK.one _) (by have := HW9.out.1.few; unfold maxLen; omega) (by have := HW9.out.1.few; omega) (by have := hbe.size; have := HW9.out.2.1; omega) ?_
            intro v' w' ho2 hg hfrom
            have hbt := (hg.block tb (Nat.lt_of_lt_of_le HW9.out.2.1 hbe.size) (fun e => HW9.out.1.row_ne e.symm)).trans ((hbe.block tb HW9.out.2.1).trans HW9.out.1.blk)
            have hrow2 : w'.ownsRow tb 37 21 v' (vs.length + 1) (wK.all (vs ++ [S9])) := by
              rw [wK.all_append]
              have e1 : wK.all [S9] = wK.vals S9 := List.append_nil _
              rw [e1]; exact ho2
            have hz := hS.row_ HW9.out.2.1 HW9.out.1.row_ne hLi (hLd 4 (by decide)) (by decide : 10 ≠ 7) (x := v') hg ⟨hrow2, rk_ne hrow2 hbt (by decide), fun k hk => (hfrom k hk).imp id (fun h => Nat.le_trans hbe.size h)⟩
            exact hK v' w' (some v') hz.1 hz.2 rfl
          · intro a wx L g K hLi hLd hS hB hR hK
            rw [if_pos (wanted_none rfl)]
            have h39 := tmp_is (hR.1)
            go_simp
            exact hK (.pointer (some ⟨tb, 0, none⟩)) wx g (hS.quiet 8 (by decide) (by decide)) (WT.refl _ _) rfl
          · intro a wx L g K hLi hLd hS hB hR hK
            rw [if_pos (wanted_none rfl)]
            have h47 := tmp_is (hR.1)
            go_simp
            exact hK (.pointer (some ⟨tb, 0, none⟩)) wx g (hS.quiet 9 (by decide) (by decide)) (WT.refl _ _) rfl
          · intro a wx L g K hLi hLd hS hB hR hK
            rw [if_pos (wanted_none rfl)]
            have h48 := tmp_is (hR.1)
            have hgx : g = some (a.eval (.tmp 46)) := hR.2.1
            obtain ⟨x9, hx⟩ : ∃ x, a.eval (.tmp 46) = x := ⟨_, rfl⟩
            rw [hx] at hgx
            have h46 := tmp_is hx
            have hst := hS.store hPk HW9.out.1.blk (k := 0) (fun _ => rfl) (show L 10 = false from hLi) (hLd 7 (by decide)) (by decide : 7 ≠ 10) hgx
            have hc := cell_of_row _ _ 0 _ _ _ ((hS.cell0 hLi).trans HW9.out.1.blk)
            simp only [List.getElem?_toArray, List.getElem?_cons_zero] at hc
            have hf : wx.frozen? ⟨tb, 0, none⟩ = false := by simp [World.frozen?, (hS.cell0 hLi).trans HW9.out.1.blk]
            obtain ⟨A1, n1, c1, rfl⟩ := WP.slice_ (hS.made x9 hgx)
            go_simp
            exact hK undef _ g hst.1 hst.2 trivial
        case fin =>
          intro a wx L g hS hall ha hR
          obtain ⟨v3, hgv, hc3⟩ := hS.cell1 (hall 10 (by decide))
          obtain ⟨hrow3, hne3, hfrom3⟩ := hS.made v3 hgv
          have hf3 := hS.fr
          clear hR hS hgv hall
          simp only [pin] at ha
          rw [ha]
          simp only [List.setIfInBounds_toArray, List.set_cons_zero, List.set_cons_succ]
          clear ha
          have H10 := Lib.hid (And.intro hc3 (And.intro hrow3 (And.intro hf3 hfrom3)))
          clear hc3 hrow3 hne3 hf3 hfrom3
          go_wp2
          go_ret
          refine ⟨rfl, v3, vs ++ [S9], ⟨H10.out.1, by rw [List.length_append]; exact H10.out.2.1, fun x hx => ?_, by rw [List.length_append]; have := HN.out.2; show _ + 1 ≤ 6; omega⟩, by rw [List.map_append, ← H9.out.2]; rfl, fun k hk => (H10.out.2.2.2 k hk).imp id (fun h => Nat.le_trans H9.out.1.f.size h), H9.out.1.f.wide.trans H10.out.2.2.1⟩
          rcases List.mem_append.1 hx with hx | hx
          · exact ⟨(H9.out.1.t.each x hx).1.fxt H10.out.2.2.1 H9.out.1.t.blk H9.out.1.t.row, (H9.out.1.t.each x hx).2⟩
          · obtain rfl := List.mem_singleton.1 hx
            exact ⟨H9.out.1.k.1.fxt H10.out.2.2.1 H9.out.1.t.blk H9.out.1.t.row, H9.out.1.k.2⟩
    · have hfi : vs.findIdx? (fun s => hitW sv tok s.q) = some kk := by
        rw [List.findIdx?_eq_some_iff_getElem]
        obtain ⟨hkl, e⟩ := List.getElem?_eq_some_iff.1 hk2
        exact ⟨hkl, by rw [e]; exact hk3, fun j hj => by have := hk4 j _ hj (List.getElem?_eq_getElem (by omega)); simpa using this⟩
      rw [hfi] at hR
      rw [hk1]
      replace hR : ((vs.map Wr.q).set kk (ownQ ⟨sv, tok, pa, ⟨ca, cb, cha, chb, cg, cl, cs, chg, chl, chs⟩, ⟨k, m, str, l, o, i⟩, t, sq⟩), 0) = R := hR
      subst hR
      have hkl : kk < vs.length := (List.getElem?_eq_some_iff.1 hk2).1
      have hkI : ¬ (kk : Int) < 0 := by omega
      have HKL := Lib.hid hkl
      clear hk1 hk2 hk3 hk4 hfi hn0 hkl
      have HCL := Lib.hid (wclone_f ⟨⟨sv, tok, pa, ⟨ca, cb, cha, chb, cg, cl, cs, chg, chl, chs⟩, ⟨k, m, str, l, o, i⟩, t, sq⟩, tA, tn, tc, pA, pn, pc, bA, bn, bc⟩ w3 B H3.out.2.2.1 (by have := H3.out.2.2.2.2; have := HH.out.2.2.2.2.2.2.2.2; omega) HH.out.2.2.2.2.1)
      try dsimp only
      go_wp2_with (first
        | (refine wpList_load_mid rfl 37 (.tmp 3) rfl w.heap.size 0 rfl [.int .i64 sv, .slice tA tn tc, .slice pA pn pc, .int .i64 ca, .int .i64 cb, .bool cha, .bool chb, .int .i64 cg, .int .i64 cl, .int .i64 cs, .bool chg, .bool chl, .bool chs, .int .i64 k, .int .i64 m, .string str, .slice bA bn bc, .int .i64 o, .int .i64 i, .int .i64 t, .int .i64 sq] _ H3.out.2.2.2.1 Try.underlying37 rfl size_wr ?_)
        | (go_at_call 34; refine HCL.out.mono ?_; rintro e w4 ⟨s', hv4, hq', hok', hsm', b4⟩; obtain rfl := hv4; have hthn : (w4.alloc (.cells #[.int .i64 0, .slice none 0 0, .slice none 0 0, .int .i64 0, .int .i64 0, .bool false, .bool false, .int .i64 0, .int .i64 0, .int .i64 0, .bool false, .bool false, .bool false, .int .i64 0, .int .i64 0, .string ⟨#[]⟩, .slice none 0 0, .int .i64 0, .int .i64 0, .int .i64 0, .int .i64 0] 37)).there w4.heap.size 0 21 := there_new w4 _ _ rfl; have H4 := Lib.hid (And.intro hq' (And.intro hok' (And.intro hsm' b4))); clear hq' hok' hsm' b4)
        | (refine wpList_store_mid rfl 37 (.tmp 6) (.tmp 31) rfl w4.heap.size 0 s'.vals.toArray rfl rfl hthn size_wr (all_oneCell_toArray (wK.one s')) ?_
           refine gen_world (F := fun W => wpList Try.prog _ _ _ _ W) (fun W => Below w4.heap.size w4 W ∧ W.heap.size = w4.heap.size + 1 ∧ OwnAt W w4.heap.size s') (own_new w4 s') ?_
           rintro w5 ⟨b5, z5, o5⟩
           have y19 := (range_below (range_below H3.out.2.2.2.1 H4.out.2.2.2 (by have := H3.out.2.2.2.2; omega)) b5 (by have := H4.out.2.2.2.size; have := H3.out.2.2.2.2; omega)) 19 (.int .i64 t) rfl
           rw [Nat.zero_add] at y19
           have x19 := (o5.t 19 (by decide))
           have x20 := (o5.t 20 (by decide))
           rw [Nat.zero_add] at x19 x20
           obtain ⟨u19, hu19⟩ := Option.isSome_iff_exists.1 x19.1
           obtain ⟨u20, hu20⟩ := Option.isSome_iff_exists.1 x20.1
           have x19f := x19.2
           have x20f := x20.2
           have H5 := Lib.hid (And.intro b5 (And.intro z5 o5))
           clear b5 z5 o5 x19 x20)
        | (go_at_call 30; refine (clamp_f t _).mono ?_; rintro e w6 ⟨rfl, hw⟩; subst hw))
      have bL := (H5.out.1.setCell (p := ⟨w4.heap.size, 19, none⟩) (Nat.le_refl _) (.int .i64 (clampQ t))).setCell (p := ⟨w4.heap.size, 20, none⟩) (Nat.le_refl _) (.int .i64 0)
      have b3L := H4.out.2.2.2.trans (bL.mono H4.out.2.2.2.size)
      have b0L := H3.out.1.trans (b3L.mono H3.out.1.size)
      have hA9 : AdW w tb v vs w4.heap.size (setTS s' (clampQ t) 0) ((w6.setCell ⟨w4.heap.size, 19, none⟩ (.int .i64 (clampQ t))).setCell ⟨w4.heap.size, 20, none⟩ (.int .i64 0)) := by
        have hz34 := H4.out.2.2.2.size
        have hz03 := H3.out.1.size
        refine ⟨H3.out.2.1.below b3L, Fx.below b0L, H5.out.2.2.turn _ _, ⟨?_, H4.out.2.2.1, clampQ_in t, ⟨by show (0 : Int) ≤ 0; decide, by show (0 : Int) < 16777216; decide⟩, ?_⟩, ⟨by omega, ?_⟩, fun e => ?_⟩
        · exact ((H4.out.2.1).below bL).mono (by omega)
        · show In64 s'.q.v.n
          rw [H4.out.1]
          exact HH.out.2.2.2.2.2.1
        · rw [World.size_setCell, World.size_setCell, H5.out.2.1]; omega
        · have := (HH.out.2.2.2.2.2.2.1.row.lt _ e).2; omega
      refine gen_world (F := fun W => Code.wp Try.prog _ _ _ W) (fun W => AdW w tb v vs w4.heap.size (setTS s' (clampQ t) 0) W) hA9 ?_
      rintro w9 hA9
      obtain ⟨S9, hS9⟩ : ∃ S9, setTS s' (clampQ t) 0 = S9 := ⟨_, rfl⟩
      have hq9 : S9.q = ownQ ⟨sv, tok, pa, ⟨ca, cb, cha, chb, cg, cl, cs, chg, chl, chs⟩, ⟨k, m, str, l, o, i⟩, t, sq⟩ := by
        rw [← hS9]
        show ({ s'.q with t := clampQ t, sq := 0 } : Wq) = _
        rw [H4.out.1]; rfl
      rw [hS9] at hA9
      have H9 := Lib.hid (And.intro hA9 hq9)
      clear hA9 hq9 hS9 bL b3L b0L y19 hu19 hu20 x19f x20f H5
      obtain ⟨A1, c1, hv, _, _, hat9, hbas9⟩ := H9.out.1.t.open_
      obtain ⟨g9, off9, hA1, _, _⟩ := hat9.place (by have := HKL.out; omega)
      obtain ⟨g8, hg8, _⟩ := hbas9 _ hA1
      injection hg8 with hg8 hg9 _
      subst hg8 hg9 hA1
      have hg9n : g9 ≠ w4.heap.size := fun e => H9.out.1.n (by rw [hv, ← e]; rfl)
      have HG := Lib.hid (And.intro hg9n HN.out.2)
      have hkn : (kk : Int) < n0 := by have := HKL.out; have := HN.out.2; omega
      have hS0 : PutS w9 tb w4.heap.size v vs S9 kk w9.drew := ⟨Fx.below (Below.drew (Below.refl _ _)), H9.out.1.o.keep rfl, .inl (H9.out.1.t.below (Below.drew (Below.refl _ _))), H9.out.1.k.1.below (Below.drew (Below.refl _ _)), H9.out.1.k.2⟩
      rw [HN.out.2] at hv
      have HVV := Lib.hid hv
      clear hat9 hbas9 hg9n hv
      refine wp_region_rel2 (PutS w9 tb w4.heap.size v vs S9 kk) (fun W W' => WtAt W tb v (vs.set kk S9) → WtAt W' tb v (vs.set kk S9)) (PutR tb w4.heap.size v vs S9 kk g9) [(0, .pointer (some ⟨tb, 0, none⟩)), (5, .int .i64 (kk : Int)), (6, .pointer (some ⟨w4.heap.size, 0, none⟩))] (by kernel_rfl) (by kernel_rfl) (by kernel_rfl) ?base hS0 putr_up ?steps ?fin
      case base =>
        intro x hx
        simp only [List.mem_cons, List.not_mem_nil, or_false] at hx
        rcases hx with rfl | rfl | rfl <;> exact ⟨rfl, rfl⟩
      case steps =>
        refine steps_cons ?_ (steps_cons ?_ (steps_cons ?_ (steps_cons ?_ (steps_cons ?_ (steps_cons ?_ (steps_cons ?_ (steps_cons ?_ steps_nil)))))))
        · intro a wx K hS hB hR hK
          rw [if_pos (wanted_none rfl)]
          have h0 := tmp_is (hB.1)
          go_simp
          exact hK (.pointer (some ⟨tb, 0, none⟩)) wx hS (fun h => h) rfl
        · intro a wx K hS hB hR hK
          rw [if_pos (wanted_none rfl)]
          have h49 := tmp_is (hR.1)
          go_simp
          exact hK (.pointer (some ⟨tb, 0, none⟩)) wx hS (fun h => h) rfl
        · intro a wx K hS hB hR hK
          rw [if_pos (wanted_none rfl)]
          have h50 := tmp_is (hR.1)
          go_simp
          exact hK (.pointer (some ⟨tb, 0, none⟩)) wx hS (fun h => h) rfl
        · intro a wx K hS hB hR hK
          rw [if_pos (wanted_none rfl)]
          have h51 := tmp_is (hR.1)
          have hc := hS.cell
          go_simp
          exact hK v wx hS (fun h => h) rfl
        · intro a wx K hS hB hR hK
          rw [if_pos (wanted_none rfl)]
          have h5 := tmp_is (hB.2.1)
          go_simp
          exact hK (.int .i64 (kk : Int)) wx hS (fun h => h) rfl
        · intro a wx K hS hB hR hK
          rw [if_pos (wanted_none rfl)]
          refine wp_load_mid 37 (.tmp 6) (by rfl) w4.heap.size 0 (hB.2.2.1) S9.vals _ hS.2.1.r Try.underlying37 rfl size_wr ?_
          exact hK (.agg S9.vals.toArray) wx hS (fun h => h) rfl
        · intro a wx K hS hB hR hK
          rw [if_pos (wanted_none rfl)]
          have h52 := tmp_is (hR.1)
          have h53 := tmp_is (hR.2.1)
          rw [HVV.out] at h52
          go_simp
          exact hK (.pointer (some ⟨g9, kk * 21, none⟩)) wx hS (fun h => h) rfl
        · intro a wx K hS hB hR hK
          rw [if_pos (wanted_none rfl)]
          have hS1 := hS
          rw [HVV.out] at hS1
          obtain ⟨q1, q2, q3⟩ := hS1.put HKL.out HG.out.1 (Nat.lt_of_lt_of_le H9.out.1.l.2 hS.1.size)
          rw [← HVV.out] at q2 q3
          refine wp_store_mid 37 (.tmp 55) (.tmp 54) (by rfl) g9 (kk * 21) S9.vals.toArray (hR.1) (hR.2.1) q1 size_wr (all_oneCell_toArray (wK.one S9)) ?_
          exact hK undef _ q2 (fun _ => q3) q3
      case fin =>
        intro a wx hS ha hR
        have hwt : WtAt wx tb v (vs.set kk S9) := deps_mem _ hR 7 (by decide)
        have H10 := Lib.hid (And.intro hwt hS.1)
        clear hR hS hwt
        simp only [pin] at ha
        rw [ha]
        simp only [List.setIfInBounds_toArray, List.set_cons_zero, List.set_cons_succ]
        clear ha
        go_wp2
        go_ret
        exact ⟨rfl, v, vs.set kk S9, H10.out.1, by rw [List.map_set, H9.out.2], fun k hk => .inl hk, H9.out.1.f.wide.trans H10.out.2⟩
end Go.Proofs.Ytmaeofhgbelciaa
