/-
  What is due.
-/
import Derived.Test.YtmaeofhgbelciaaWaPass
namespace Go.Proofs.Ytmaeofhgbelciaa
open Go.RowKit
set_option maxRecDepth 100000
set_option maxRecDepth 100000
set_option linter.unusedVariables false
set_option linter.unusedSimpArgs false
/-- The variable of a value. -/
structure ValAt (w : World) (b : Nat) (u : Vr) : Prop where
  r : w.rangeAt b 0 (vK.vals u)
  t : w.there b 0 6
theorem ValAt.keep {w w' : World} {b : Nat} {s : Vr} (h : ValAt w b s) (hb : w'.heap[b]? = w.heap[b]?) : ValAt w' b s :=
  ⟨fun j u hj => (World.cell?_of_block hb).trans (h.r j u hj), fun j hj => by
    have := h.t j hj
    rw [World.cell?_of_block hb]
    refine ⟨this.1, ?_⟩
    rw [← this.2]
    unfold World.frozen?
    rw [hb]⟩
theorem val_new (w4 : World) (u : Vr) : Below w4.heap.size w4 ((w4.alloc (.cells #[.int .i64 0, .int .i64 0, .string ⟨#[]⟩, .slice none 0 0, .int .i64 0, .int .i64 0] 34)).setCells w4.heap.size 0 (vK.vals u)) ∧ ((w4.alloc (.cells #[.int .i64 0, .int .i64 0, .string ⟨#[]⟩, .slice none 0 0, .int .i64 0, .int .i64 0] 34)).setCells w4.heap.size 0 (vK.vals u)).heap.size = w4.heap.size + 1 ∧ ValAt ((w4.alloc (.cells #[.int .i64 0, .int .i64 0, .string ⟨#[]⟩, .slice none 0 0, .int .i64 0, .int .i64 0] 34)).setCells w4.heap.size 0 (vK.vals u)) w4.heap.size u := by
  have hthn : (w4.alloc (.cells #[.int .i64 0, .int .i64 0, .string ⟨#[]⟩, .slice none 0 0, .int .i64 0, .int .i64 0] 34)).there w4.heap.size 0 6 := there_new w4 _ _ rfl
  exact ⟨(alloc_below w4 (.cells #[.int .i64 0, .int .i64 0, .string ⟨#[]⟩, .slice none 0 0, .int .i64 0, .int .i64 0] 34)).trans (below_setCells (Below.refl w4.heap.size (w4.alloc (.cells #[.int .i64 0, .int .i64 0, .string ⟨#[]⟩, .slice none 0 0, .int .i64 0, .int .i64 0] 34))) (b := w4.heap.size) (Nat.le_refl _) (vK.vals u) 0), by rw [size_setCells', alloc_size], range_stored hthn, there_cells (w := w4) _ _ _ hthn⟩
theorem val_put {w4 w : World} {b : Nat} {u u' : Vr} (h : Below b w4 w) (ho : ValAt w b u) (hz : w.heap.size = b + 1) : Below b w4 (w.setCells b 0 (vK.vals u')) ∧ (w.setCells b 0 (vK.vals u')).heap.size = b + 1 ∧ ValAt (w.setCells b 0 (vK.vals u')) b u' :=
  ⟨below_setCells h (Nat.le_refl _) _ 0, by rw [size_setCells']; exact hz, range_stored ho.t, there_cells (w := w) _ _ _ ho.t⟩
theorem drop_at {α : Type} {l : List α} {k : Nat} {x : α} (h : l[k]? = some x) : x :: l.drop (k + 1) = l.drop k := by
  obtain ⟨hk, e⟩ := List.getElem?_eq_some_iff.1 h
  rw [List.drop_eq_getElem_cons hk, e]
/-- What stands between two rounds. -/
def DueI (w : World) (tb : Nat) (v : Value) (qs : List Wq) (us : List Vq) (T : Int) (k m c' : Nat) (A' : Option Addr) (wr : World) : Prop :=
  ∃ X vs1, ToldAt wr w.heap.size A' m c' X ∧ X.map Wr.q = (passQ us T 0 (qs.take k)).2 ∧ WtAt wr tb v vs1 ∧ vs1.map Wr.q = (passQ us T 0 (qs.take k)).1 ++ qs.drop k ∧ Fx tb v.ownBlock w wr
def DuePost (w : World) (tb : Nat) (v : Value) (qs : List Wq) (us : List Vq) (T : Int) (e : Ending) (w' : World) : Prop :=
  ∃ A n c X vs', e = .returned (.slice A n c) ∧ ToldAt w' w.heap.size A n c X ∧ X.map Wr.q = (passQ us T 0 qs).2 ∧ WtAt w' tb v vs' ∧ vs'.map Wr.q = (passQ us T 0 qs).1 ∧ Fx tb v.ownBlock w w'
theorem pass_step {us : List Vq} {T : Int} {qs : List Wq} {k : Nat} {q : Wq} (h : qs[k]? = some q) : passQ us T 0 (qs.take (k + 1)) = if dueQ q.c q.v q.t ((us[k]?).getD q.v) T then ((passQ us T 0 (qs.take k)).1 ++ [newQ q ((us[k]?).getD q.v) T], (passQ us T 0 (qs.take k)).2 ++ [newQ q ((us[k]?).getD q.v) T]) else ((passQ us T 0 (qs.take k)).1 ++ [q], (passQ us T 0 (qs.take k)).2) := by
  have hk := (List.getElem?_eq_some_iff.1 h).1
  rw [List.take_add_one, h, show (some q).toList = [q] from rfl, passQ_append, List.length_take, Nat.min_eq_left (by omega), Nat.zero_add]
  simp only [passQ]
  split <;> simp
theorem ToldAt.fx {w w' : World} {B n c tb : Nat} {A : Option Addr} {X : List Wr} {row : Option Nat} (h : ToldAt w B A n c X) (hf : Fx tb row w w') (htb : tb < B) (hr : ∀ k, row = some k → k < B) : ToldAt w' B A n c X := by
  have key : ∀ {e sz n' : Nat} {u : Value} {xs : List Value}, w.ownsRow B e sz u n' xs → u.ownBlock ≠ some tb ∧ (u.ownBlock = none ∨ u.ownBlock ≠ row) := fun ho => by
    refine ⟨own_low ho htb, ?_⟩
    cases hu : Value.ownBlock _ with
    | none => exact .inl rfl
    | some k => exact .inr fun e => by have := hr k e.symm; have := (ho.lt k hu).1; omega
  exact ⟨hf.row_ h.row (key h.row).1 (key h.row).2, fun s hs => ⟨(h.each s hs).1.fx hf (fun n c A e sz xs _ ho => key ho), (h.each s hs).2⟩⟩
theorem set_at {α : Type} {P l : List α} {k : Nat} {x y : α} (hP : P.length = k) (h : l[k]? = some y) : (P ++ l.drop k).set k x = (P ++ [x]) ++ l.drop (k + 1) := by
  rw [List.set_append_right _ _ (by omega), hP, Nat.sub_self, ← drop_at h, List.set_cons_zero, List.append_assoc, List.singleton_append]
theorem WtAt.growo {W W' : World} {tb Bb m : Nat} {v u : Value} {vs : List Wr} {xs : List Value} (h : WtAt W tb v vs) (ho : W.ownsRow Bb 37 21 u m xs) (hv : ∀ k, v.ownBlock = some k → k < Bb) (htb : tb < Bb) (hg : W.grownBy W' u.ownBlock) : WtAt W' tb v vs := by
  refine ⟨(hg.block tb h.lt (fun e => own_low ho htb e.symm)).trans h.blk, ?_, fun s hs => ⟨(h.each s hs).1.grown ho hg, (h.each s hs).2⟩, h.few⟩
  refine (Fx.grown (tb := W.heap.size) hg).row_ h.row (fun e => by have := (h.row.lt _ e).2; omega) ?_
  cases hq : v.ownBlock with
  | none => exact .inl rfl
  | some k => exact .inr fun e => by have := hv k hq; have := (ho.lt k e.symm).1; omega
def IsR (g k b : Nat) (s : Wr) (u : Vr) (T : Int) (D : Bool) (i : Nat) (W : World) (x : Value) : Prop :=
  match i with
  | 0 | 1 => x = .pointer (some ⟨g, k * 21, none⟩)
  | 2 => x = .agg s.vals.toArray
  | 3 => x = .agg (vK.vals u).toArray
  | 4 => x = .int .i64 T
  | 5 => x = .bool D
  | 6 => x = .bool (!D)
  | _ => True
theorem isr_up {g k b : Nat} {s : Wr} {u : Vr} {T : Int} {D : Bool} (i : Nat) (W W' : World) (x : Value) (hT : Below W.heap.size W W') (h : IsR g k b s u T D i W x) : IsR g k b s u T D i W' x := by
  unfold IsR at h ⊢
  split at h <;> first | exact h | trivial
/-- While a watch is turned in its row. -/
structure DS (w1 : World) (tb : Nat) (v : Value) (vs : List Wr) (k : Nat) (s : Wr) (u : Vr) (T : Int) (L : Nat → Bool) (gh : Option (Option Addr × Nat) × Wr) (W : World) : Prop where
  fr : Fx tb v.ownBlock w1 W
  tab : WtAt W tb v (vs.set k gh.2)
  same : gh.2.q.sv = s.q.sv ∧ gh.2.q.tok = s.q.tok ∧ gh.2.q.pa = s.q.pa ∧ gh.2.q.c = s.q.c
  sq0 : L 20 = false → gh.2.q.sq = s.q.sq
  v1 : L 14 = true → gh.2.q.v = u.q
  t1 : L 17 = true → gh.2.q.t = T
  q1 : L 20 = true → gh.2.q.sq = (s.q.sq + 1) % 16777216
  need : L 20 = true → L 9 = true
  early : L 4 = false → gh.1 = none
  made : ∀ p, gh.1 = some p → Ob W tb p.1 u.n p.2 u.q.b
def DT (tb : Nat) (v : Value) (gh : Option (Option Addr × Nat) × Wr) (W : World) (gh' : Option (Option Addr × Nat) × Wr) (W' : World) : Prop := ∀ p, gh.1 = some p → gh'.1 = some p
def DR (tb g k : Nat) (s : Wr) (u : Vr) (T : Int) (gh : Option (Option Addr × Nat) × Wr) (i : Nat) (W : World) (x : Value) : Prop :=
  match i with
  | 0 | 1 | 2 | 6 | 7 | 12 | 15 | 18 => x = .pointer (some ⟨g, k * 21, none⟩)
  | 3 => x = .agg (vK.vals u).toArray
  | 4 => ∃ p, gh.1 = some p ∧ x = .agg (vvals u.q p.1 u.n p.2).toArray
  | 5 => x = .int .i64 T
  | 8 | 19 => x = .pointer (some ⟨g, k * 21 + 20, none⟩)
  | 9 => x = .int .i64 s.q.sq
  | 10 => x = .int .i64 (s.q.sq + 1)
  | 11 => x = .int .i64 ((s.q.sq + 1) % 16777216)
  | 13 => x = .pointer (some ⟨g, k * 21 + 13, none⟩)
  | 16 => x = .pointer (some ⟨g, k * 21 + 19, none⟩)
  | _ => True
theorem dr_up {tb g k : Nat} {v : Value} {s : Wr} {u : Vr} {T : Int} (i : Nat) (gh : Option (Option Addr × Nat) × Wr) (W : World) (gh' : Option (Option Addr × Nat) × Wr) (W' : World) (x : Value) (hT : DT tb v gh W gh' W') (h : DR tb g k s u T gh i W x) : DR tb g k s u T gh' i W' x := by
  unfold DR at h ⊢
  split at h <;> first | exact h | trivial | (obtain ⟨p, h1, h2⟩ := h; exact ⟨p, hT p h1, h2⟩)
section
variable {w1 W W' : World} {tb k : Nat} {v : Value} {vs : List Wr} {s : Wr} {u : Vr} {T : Int} {L : Nat → Bool} {gh : Option (Option Addr × Nat) × Wr}
theorem DS.quiet (h : DS w1 tb v vs k s u T L gh W) (i : Nat) (hi : i ≠ 4 ∧ i ≠ 14 ∧ i ≠ 17 ∧ i ≠ 20) : DS w1 tb v vs k s u T (updG L i) gh W :=
  ⟨h.fr, h.tab, h.same, by rw [updG_ne (Ne.symm hi.2.2.2)]; exact h.sq0, by rw [updG_ne (Ne.symm hi.2.1)]; exact h.v1, by rw [updG_ne (Ne.symm hi.2.2.1)]; exact h.t1, by rw [updG_ne (Ne.symm hi.2.2.2)]; exact h.q1, fun e => by rw [updG_ne (Ne.symm hi.2.2.2)] at e; unfold updG; split; rfl; exact h.need e, by rw [updG_ne (Ne.symm hi.1)]; exact h.early, h.made⟩
theorem DS.mem (h : DS w1 tb v vs k s u T L gh W) (hk : k < vs.length) : Wok W tb gh.2 ∧ Wsm gh.2 ∧ Wtm gh.2 := h.tab.each gh.2 (List.mem_set hk _)
theorem DS.call (h : DS w1 tb v vs k s u T L gh W) (hl : L 4 = false) (hb : Below W.heap.size W W') (p : Option Addr × Nat) (hp : Ob W' W.heap.size p.1 u.n p.2 u.q.b) : DS w1 tb v vs k s u T (updG L 4) (some p, gh.2) W' ∧ DT tb v gh W (some p, gh.2) W' :=
  ⟨⟨h.fr.trans (Fx.below hb), h.tab.below hb, h.same, by rw [updG_ne (by decide)]; exact h.sq0, by rw [updG_ne (by decide)]; exact h.v1, by rw [updG_ne (by decide)]; exact h.t1, by rw [updG_ne (by decide)]; exact h.q1, fun e => by rw [updG_ne (by decide)] at e; rw [updG_ne (by decide)]; exact h.need e, (fun e => by rw [updG_eq] at e; cases e), fun q hq => by
    obtain rfl := Option.some.inj hq
    exact hp.mono (Nat.le_of_lt h.tab.lt)⟩, fun q hq => by rw [h.early hl] at hq; cases hq⟩
theorem Ob.growr {w w' : World} {B n c k m : Nat} {A : Option Addr} {l : List UInt8} {v : Value} {xs : List Value} (h : Ob w B A n c l) (hr : w.ownsRow k 37 21 v m xs) (hg : w.grownBy w' v.ownBlock) : Ob w' B A n c l :=
  ⟨(Fx.grown (tb := w.heap.size) hg).row_ h.1 (fun e => by have := (h.1.lt _ e).2; omega) (rk_apart h.1 hr (by decide)), h.2⟩
end
section
variable {w1 W : World} {tb k g n c : Nat} {vs : List Wr} {s : Wr} {u : Vr} {T : Int} {L : Nat → Bool} {gh : Option (Option Addr × Nat) × Wr}
theorem DS.elem (h : DS w1 tb (.slice (some ⟨g, 0, none⟩) n c) vs k s u T L gh W) (hk : k < vs.length) : W.rangeAt g (k * 21) gh.2.vals := by
  obtain ⟨A, c', e, _, _, hat, _⟩ := h.tab.open_
  injection e with e1 _ _
  subst e1
  have := hat.range (k := k) (s := gh.2) (List.getElem?_set_self hk)
  rwa [Nat.zero_add] at this
theorem DS.puts (h : DS w1 tb (.slice (some ⟨g, 0, none⟩) n c) vs k s u T L gh W) (hk : k < vs.length) (o : Nat) (ys : List Value) (s' : Wr) (ho : o + ys.length ≤ 21) (hv : s'.vals = gh.2.vals.take o ++ ys ++ gh.2.vals.drop (o + ys.length)) (hs : Wok W tb s' ∧ Wsm s' ∧ Wtm s') : WtAt (W.setCells g (k * 21 + o) ys) tb (.slice (some ⟨g, 0, none⟩) n c) (vs.set k s') ∧ Fx tb (Value.ownBlock (.slice (some ⟨g, 0, none⟩) n c)) w1 (W.setCells g (k * 21 + o) ys) ∧ W.there g (k * 21 + o) ys.length ∧ ∀ p, gh.1 = some p → Ob (W.setCells g (k * 21 + o) ys) tb p.1 u.n p.2 u.q.b := by
  obtain ⟨p1, p2, p3⟩ := h.tab.puts (kk := k) (s := gh.2) (s' := s') (ys := ys) (o := o) (List.getElem?_set_self hk) ho hv hs
  rw [List.set_set] at p1
  exact ⟨p1, h.fr.trans (Fx.grown p2), p3, fun p hp => (h.made p hp).growr h.tab.row p2⟩
theorem DS.storeV (h : DS w1 tb (.slice (some ⟨g, 0, none⟩) n c) vs k s u T L gh W) (hk : k < vs.length) {p : Option Addr × Nat} (hp : gh.1 = some p) (hu : (u.n : Int) ≤ 1048576 ∧ u.q.s.size ≤ 1048576 ∧ In64 u.q.n) : DS w1 tb (.slice (some ⟨g, 0, none⟩) n c) vs k s u T (updG L 14) (gh.1, { gh.2 with q := { gh.2.q with v := u.q }, bA := p.1, bn := u.n, bc := p.2 }) (W.setCells g (k * 21 + 13) (vvals u.q p.1 u.n p.2)) ∧ W.there g (k * 21 + 13) 6 := by
  have hm := h.mem hk
  obtain ⟨p1, p2, p3, p4⟩ := h.puts hk 13 (vvals u.q p.1 u.n p.2) { gh.2 with q := { gh.2.q with v := u.q }, bA := p.1, bn := u.n, bc := p.2 } (by show 13 + 6 ≤ 21; decide) rfl ⟨⟨hm.1.1, hm.1.2.1, h.made p hp⟩, ⟨hm.2.1.1, hm.2.1.2.1, hu.1, hu.2.1⟩, hm.2.2.1, hm.2.2.2.1, hu.2.2⟩
  exact ⟨⟨p2, p1, h.same, by rw [updG_ne (by decide)]; exact h.sq0, fun _ => rfl, by rw [updG_ne (by decide)]; exact h.t1, by rw [updG_ne (by decide)]; exact h.q1, fun e => by rw [updG_ne (by decide)] at e; rw [updG_ne (by decide)]; exact h.need e, by rw [updG_ne (by decide)]; exact h.early, p4⟩, p3⟩
theorem DS.storeT (h : DS w1 tb (.slice (some ⟨g, 0, none⟩) n c) vs k s u T L gh W) (hk : k < vs.length) (hT : 0 ≤ T ∧ T ≤ 1099511627776) : DS w1 tb (.slice (some ⟨g, 0, none⟩) n c) vs k s u T (updG L 17) (gh.1, { gh.2 with q := { gh.2.q with t := T } }) (W.setCells g (k * 21 + 19) [.int .i64 T]) ∧ W.there g (k * 21 + 19) 1 := by
  have hm := h.mem hk
  obtain ⟨p1, p2, p3, p4⟩ := h.puts hk 19 [.int .i64 T] { gh.2 with q := { gh.2.q with t := T } } (by show 19 + 1 ≤ 21; decide) rfl ⟨⟨hm.1.1, hm.1.2.1, hm.1.2.2⟩, hm.2.1, hT, hm.2.2.2.1, hm.2.2.2.2⟩
  exact ⟨⟨p2, p1, h.same, by rw [updG_ne (by decide)]; exact h.sq0, by rw [updG_ne (by decide)]; exact h.v1, fun _ => rfl, by rw [updG_ne (by decide)]; exact h.q1, fun e => by rw [updG_ne (by decide)] at e; rw [updG_ne (by decide)]; exact h.need e, by rw [updG_ne (by decide)]; exact h.early, p4⟩, p3⟩
theorem DS.storeS (h : DS w1 tb (.slice (some ⟨g, 0, none⟩) n c) vs k s u T L gh W) (hk : k < vs.length) (hl : L 9 = true) : DS w1 tb (.slice (some ⟨g, 0, none⟩) n c) vs k s u T (updG L 20) (gh.1, { gh.2 with q := { gh.2.q with sq := (s.q.sq + 1) % 16777216 } }) (W.setCells g (k * 21 + 20) [.int .i64 ((s.q.sq + 1) % 16777216)]) ∧ W.there g (k * 21 + 20) 1 := by
  have hm := h.mem hk
  obtain ⟨p1, p2, p3, p4⟩ := h.puts hk 20 [.int .i64 ((s.q.sq + 1) % 16777216)] { gh.2 with q := { gh.2.q with sq := (s.q.sq + 1) % 16777216 } } (by show 20 + 1 ≤ 21; decide) rfl ⟨⟨hm.1.1, hm.1.2.1, hm.1.2.2⟩, hm.2.1, hm.2.2.1, ⟨by show 0 ≤ (s.q.sq + 1) % 16777216; omega, by show (s.q.sq + 1) % 16777216 < 16777216; omega⟩, hm.2.2.2.2⟩
  exact ⟨⟨p2, p1, h.same, (fun e => by rw [updG_eq] at e; cases e), by rw [updG_ne (by decide)]; exact h.v1, by rw [updG_ne (by decide)]; exact h.t1, fun _ => rfl, fun _ => by rw [updG_ne (by decide)]; exact hl, by rw [updG_ne (by decide)]; exact h.early, p4⟩, p3⟩
theorem DS.done (h : DS w1 tb (.slice (some ⟨g, 0, none⟩) n c) vs k s u T L gh W) (hL : L 14 = true ∧ L 17 = true ∧ L 20 = true) : gh.2.q = newQ s.q u.q T := by
  obtain ⟨a, b, d, e⟩ := h.same
  have h1 := h.v1 hL.1
  have h2 := h.t1 hL.2.1
  have h3 := h.q1 hL.2.2
  obtain ⟨x, y⟩ := gh
  obtain ⟨⟨q1, q2, q3, q4, q5, q6, q7⟩, _⟩ := y
  dsimp only at a b d e h1 h2 h3 ⊢
  subst a b d e h1 h2 h3
  rfl
end
set_option maxHeartbeats 16000000 in
theorem wdue_f {tb : Nat} {v : Value} {vs : List Wr} {w : World} (h : WtAt w tb v vs) (A : Option Addr) (n c : Nat) (us : List Vr) (now : Int) (hu : ∀ W, Fx tb v.ownBlock w W → vK.At W W.heap.size A n us ∧ ∀ u ∈ us, Vgo W W.heap.size u) (hn : n ≤ 1048576) :
    Calls Try.prog 13 #[.pointer (some ⟨tb, 0, none⟩), .slice A n c, .int .i64 now] w (DuePost w tb v (vs.map Wr.q) (us.map Vr.q) (clampQ now)) := by
  obtain ⟨i0, hi0, hz0, hz1, hz2⟩ := info_parts info_wr
  have hnI : (n : Int) ≤ 1048576 := by omega
  have hfew := h.few
  obtain ⟨A0, cc, hv, hcc, hcm, _, hbas⟩ := h.open_
  obtain ⟨n0, hn0⟩ : ∃ n0, vs.length = n0 := ⟨_, rfl⟩
  obtain ⟨qs, hqs⟩ : ∃ qs, vs.map Wr.q = qs := ⟨_, rfl⟩
  obtain ⟨T, hT⟩ : ∃ T, clampQ now = T := ⟨_, rfl⟩
  have hTin := clampQ_in now
  have hcl := fun W => clamp_f now W
  rw [hT] at hTin
  simp only [hT] at hcl
  have hql : qs.length = n0 := by rw [← hqs, List.length_map, hn0]
  have hlt := h.lt
  rw [hqs, hT]
  rw [hn0] at hv hcc hfew
  have c0 := h.cell0
  rw [hv] at c0
  have hD0 : DueI w tb v qs (us.map Vr.q) T 0 0 0 none w := ⟨[], vs, ⟨World.ownsRow_nil _ _ _ _, fun s hs => by cases hs⟩, rfl, h, by rw [hqs]; rfl, Fx.refl _ _ _⟩
  have HH := Lib.hid (And.intro h (And.intro hu (And.intro True.intro (And.intro True.intro (And.intro hcl (And.intro hD0 (And.intro hTin (And.intro hv (And.intro hbas (And.intro hql hlt))))))))))
  have hn0I : (n0 : Int) ≤ 6 := by omega
  clear hu hcl hD0 hTin hbas hfew hn0 h hT hqs hql hlt
  clear hv
  go_enter Try.func13, Try.ntmps13
  go_wp2_with fail
  refine (HH.out.2.2.2.2.1 w).mono ?_
  rintro e w1 ⟨rfl, hw⟩
  obtain rfl := hw.symm
  try dsimp only
  go_wp2
  go_loopw [7, 18] (fun v7 v18 wr => ∃ (k m c' : Nat) (A' : Option Addr), k ≤ n0 ∧ m ≤ k ∧ v18 = .int .i64 (k : Int) ∧ v7 = .slice A' m c' ∧ Aside (DueI w tb v qs (us.map Vr.q) T k m c' A' wr)) (fun _ v18 _ => n0 - (intOf v18).toNat)
  case atStart => exact ⟨0, 0, 0, none, Nat.zero_le _, Nat.le_refl _, rfl, rfl, (show Aside _ from HH.out.2.2.2.2.2.1)⟩
  case round =>
    obtain ⟨k, m, c', A', hk, hmk, rfl, rfl, hrel⟩ := hrel
    obtain ⟨X, vs1, hX, hXq, hW, hWq, hF⟩ := hrel.out
    clear hrel
    by_cases hlt : k < n0
    · have hltI : (k : Int) < n0 := by omega
      have hl1 : vs1.length = n0 := by
        have := congrArg List.length hWq
        rw [List.length_map, List.length_append, passQ_len, List.length_take, List.length_drop, HH.out.2.2.2.2.2.2.2.2.2.1] at this
        omega
      obtain ⟨s, hs⟩ : ∃ s, vs1[k]? = some s := ⟨_, List.getElem?_eq_getElem (by omega)⟩
      have hsq : qs[k]? = some s.q := by
        have h1 : (vs1.map Wr.q)[k]? = some s.q := by rw [List.getElem?_map, hs]; rfl
        rw [hWq, List.getElem?_append_right (by rw [passQ_len, List.length_take]; omega), passQ_len, List.length_take, Nat.min_eq_left (by rw [HH.out.2.2.2.2.2.2.2.2.2.1]; omega), Nat.sub_self, List.getElem?_drop, Nat.add_zero] at h1
        exact h1
      obtain ⟨A1, c1, hv1, _, _, hat1, hbas1⟩ := hW.open_
      rw [HH.out.2.2.2.2.2.2.2.1, hl1] at hv1
      injection hv1 with e1 _ e3
      subst e1 e3
      rw [hl1] at hat1
      obtain ⟨g, off, hA0, hgl, _⟩ := hat1.place (by omega)
      obtain ⟨g', hg', hgt⟩ := hbas1 _ hA0
      injection hg' with hg1 hg2 _
      subst hg1 hg2 hA0
      have hrg : wr.rangeAt g (k * 21) s.vals := by have := hat1.range hs; rwa [Nat.zero_add] at this
      have hes := hW.each s (List.mem_of_getElem? hs)
      have hc0 := hW.cell0
      rw [HH.out.2.2.2.2.2.2.2.1] at hc0
      have hrv := Wr.val_range hrg
      have hthn : (wr.alloc (.cells #[.int .i64 0, .int .i64 0, .string ⟨#[]⟩, .slice none 0 0, .int .i64 0, .int .i64 0] 34)).there wr.heap.size 0 6 := there_new wr _ _ rfl
      have HX := Lib.hid (And.intro hX (And.intro hXq (And.intro hW (And.intro hWq (And.intro hF (And.intro hs (And.intro hsq (And.intro hes (And.intro hrg (And.intro hl1 (And.intro hgt hgl)))))))))))
      clear hX hXq hW hWq hF hs hsq hes hat1 hbas1 hl1 hrg
      by_cases hkn : k < n
      · have hknI : (k : Int) < n := by omega
        have hKu := HH.out.2.1 wr HX.out.2.2.2.2.1
        obtain ⟨bu, ou, hAu, hbul, _⟩ := hKu.1.place (by omega)
        subst hAu
        obtain ⟨uu, huu⟩ := hKu.1.get hkn
        have hur : wr.rangeAt bu (ou + k * 6) (vK.vals uu) := hKu.1.range huu
        have hgu := hKu.2 uu (List.mem_of_getElem? huu)
        obtain ⟨u0, hu0⟩ : ∃ uu : Vr, uu = ⟨s.q.v, s.bA, s.bn, s.bc⟩ := ⟨_, rfl⟩
        replace hrv : wr.rangeAt g (k * 21 + 13) (vK.vals u0) := by rw [hu0]; exact hrv
        have Huu := Lib.hid (And.intro huu hgu)
        have hnk : (n : Int) ≤ 1048576 := hnI
        clear huu hgu hu0 hKu
        go_wp2_with (first
          | (refine wpList_load_mid rfl 34 (.tmp 29) rfl g (k * 21 + 13) rfl (vK.vals u0) _ hrv Try.underlying34 rfl size_vl ?_)
          | (refine wpList_store_mid rfl 34 (.tmp 10) (.tmp 30) rfl wr.heap.size 0 (vK.vals u0).toArray rfl rfl hthn size_vl (all_oneCell_toArray (vK.one u0)) ?_
             refine gen_world (F := fun W => wpList Try.prog _ _ _ _ W) (fun W => Below wr.heap.size wr W ∧ W.heap.size = wr.heap.size + 1 ∧ ValAt W wr.heap.size u0) (val_new wr u0) ?_
             rintro w8 H8'
             have H8 := Lib.hid H8'
             have hur8 := range_below hur H8'.1 hbul
             have ht8 := H8'.2.2.t
             clear H8')
          | (refine wpList_load_mid rfl 34 (.tmp 37) rfl bu (ou + k * 6) rfl (vK.vals uu) _ hur8 Try.underlying34 rfl size_vl ?_)
          | (refine wpList_store_mid rfl 34 (.tmp 10) (.tmp 38) rfl wr.heap.size 0 (vK.vals uu).toArray rfl rfl ht8 size_vl (all_oneCell_toArray (vK.one uu)) ?_
             refine gen_world (F := fun W => wpList Try.prog _ _ _ _ W) (fun W => Below wr.heap.size wr W ∧ W.heap.size = wr.heap.size + 1 ∧ ValAt W wr.heap.size uu) (val_put H8.out.1 H8.out.2.2 H8.out.2.1) ?_
             rintro w9 H9'
             have H9 := Lib.hid H9'
             clear H9'))
        have hux : uu.q = ((us.map Vr.q)[k]?).getD s.q.v := by
          rw [List.getElem?_map, Huu.out.1]; rfl
        have hu1 : Bs w9 w9.heap.size uu.A uu.n uu.q.b := (Huu.out.2.1.below H9.out.1).more H9.out.1.size
        have hu2 : (uu.n : Int) ≤ 1048576 ∧ uu.q.s.size ≤ 1048576 ∧ In64 uu.q.n := Huu.out.2.2
        have hub : ∀ W1, Below wr.heap.size wr W1 → ∀ W, Fx tb (Value.ownBlock (.slice (some ⟨g, 0, none⟩) n0 cc)) W1 W → Bs W W.heap.size uu.A uu.n uu.q.b := fun W1 h1 W hf => by
          have hF2 : Fx tb v.ownBlock w W := by
            refine (HX.out.2.2.2.2.1.trans (Fx.below h1)).trans ?_
            rw [HH.out.2.2.2.2.2.2.2.1]; exact hf
          exact ((HH.out.2.1 W hF2).2 uu (List.mem_of_getElem? Huu.out.1)).1
        have HUB := Lib.hid hub
        clear hub
        have HU := Lib.hid (And.intro hu1 (And.intro hu2.1 (And.intro hu2.2.1 (And.intro hu2.2.2 hux))))
        clear hux hu1 hu2
        have hD := fun W (hW : Below w9.heap.size w9 W) => isdue_f s uu.q uu.A uu.n uu.c T W (HX.out.2.2.2.2.2.2.2.1.1.2.2.bs.below' (H9.out.1.trans (hW.mono H9.out.1.size)) (Nat.le_refl _) |>.lt) ((HU.out.1.below hW).lt) HH.out.2.2.2.2.2.2.1 HX.out.2.2.2.2.2.2.2.1.2.2.1 HX.out.2.2.2.2.2.2.2.1.2.2.2.2 HU.out.2.2.2.1
        obtain ⟨D, hDD⟩ : ∃ D, dueQ s.q.c s.q.v s.q.t uu.q T = D := ⟨_, rfl⟩
        simp only [hDD] at hD
        have HD := Lib.hid (And.intro hD hDD)
        clear hD hDD
        refine wp_region_rel2 (fun W => Below w9.heap.size w9 W) (fun W W' => Below W.heap.size W W') (IsR g k wr.heap.size s uu T D) [(9, .pointer (some ⟨g, k * 21, none⟩)), (10, .pointer (some ⟨wr.heap.size, 0, none⟩)), (2, .int .i64 T)] (by kernel_rfl) (by kernel_rfl) (by kernel_rfl) ?base (Below.drew (Below.refl _ _)) isr_up ?steps ?fin
        case base =>
          intro x hx
          simp only [List.mem_cons, List.not_mem_nil, or_false] at hx
          rcases hx with rfl | rfl | rfl <;> exact ⟨rfl, rfl⟩
        case steps =>
          refine steps_cons ?_ (steps_cons ?_ (steps_cons ?_ (steps_cons ?_ (steps_cons ?_ (steps_cons ?_ (steps_cons ?_ steps_nil))))))
          · intro a wx K hS hB hR hK
            rw [if_pos (wanted_none rfl)]
            have h9 := tmp_is (hB.1)
            go_simp
            exact hK (.pointer (some ⟨g, k * 21, none⟩)) wx hS (Below.refl _ _) rfl
          · intro a wx K hS hB hR hK
            rw [if_pos (wanted_none rfl)]
            have h39 := tmp_is (hR.1)
            go_simp
            exact hK (.pointer (some ⟨g, k * 21, none⟩)) wx hS (Below.refl _ _) rfl
          · intro a wx K hS hB hR hK
            rw [if_pos (wanted_none rfl)]
            have hrg := range_below (range_below HX.out.2.2.2.2.2.2.2.2.1 H9.out.1 HX.out.2.2.2.2.2.2.2.2.2.2.2) hS (Nat.lt_of_lt_of_le HX.out.2.2.2.2.2.2.2.2.2.2.2 H9.out.1.size)
            refine wp_load_mid 37 (.tmp 40) (by rfl) g (k * 21) (hR.1) s.vals _ hrg Try.underlying37 rfl size_wr ?_
            exact hK (.agg s.vals.toArray) wx hS (Below.refl _ _) rfl
          · intro a wx K hS hB hR hK
            rw [if_pos (wanted_none rfl)]
            have hrg := range_below H9.out.2.2.r hS (by have := H9.out.2.1; omega)
            refine wp_load_mid 34 (.tmp 10) (by rfl) wr.heap.size 0 (hB.2.1) (vK.vals uu) _ hrg Try.underlying34 rfl size_vl ?_
            exact hK (.agg (vK.vals uu).toArray) wx hS (Below.refl _ _) rfl
          · intro a wx K hS hB hR hK
            rw [if_pos (wanted_none rfl)]
            have h2 := tmp_is (hB.2.2.1)
            go_simp
            exact hK (.int .i64 T) wx hS (Below.refl _ _) rfl
          · intro a wx K hS hB hR hK
            rw [if_pos (wanted_none rfl)]
            have h41 := tmp_is (hR.1)
            have h42 := tmp_is (hR.2.1)
            have h43 := tmp_is (hR.2.2.1)
            go_simp
            refine (HD.out.1 wx hS).mono ?_
            rintro e w3 ⟨rfl, b3⟩
            exact hK _ w3 (hS.trans (b3.mono hS.size)) b3 rfl
          · intro a wx K hS hB hR hK
            rw [if_pos (wanted_none rfl)]
            have h44 := tmp_is (hR.1)
            go_simp
            exact hK (.bool (!D)) wx hS (Below.refl _ _) rfl
        case fin =>
          intro a w10 hS10 ha hR
          have hx45 : a.eval (.tmp 45) = .bool (!D) := deps_mem _ hR 6 (by decide)
          have hb10 := H9.out.1.trans (hS10.mono H9.out.1.size)
          have H10 := Lib.hid (And.intro hb10 (And.intro hS10 (H9.out.2.2.keep (hS10.block wr.heap.size (by have := H9.out.2.1; omega)))))
          clear hR hS10 hb10
          simp only [pin] at ha
          rw [ha]
          simp only [List.setIfInBounds_toArray, List.set_cons_zero, List.set_cons_succ, hx45]
          clear ha hx45
          have hst := pass_step (us := us.map Vr.q) (T := T) HX.out.2.2.2.2.2.2.1
          rw [← HU.out.2.2.2.2, HD.out.2] at hst
          cases D with
          | false =>
            rw [if_neg (by decide)] at hst
            have HS := Lib.hid hst
            clear hst
            go_wp2
            go_roundw
            case rel => exact ⟨k + 1, m, c', A', by omega, by omega, by go_num, rfl, (show Aside _ from ⟨X, vs1, HX.out.1.below H10.out.1, by rw [HS.out]; exact HX.out.2.1, HX.out.2.2.1.below H10.out.1, by rw [HS.out, HX.out.2.2.2.1, List.append_assoc, List.singleton_append, drop_at HX.out.2.2.2.2.2.2.1], HX.out.2.2.2.2.1.trans (Fx.below H10.out.1)⟩)⟩
            case measure => simp [intOf]; omega
          | true =>
            rw [if_pos rfl] at hst
            have HS := Lib.hid hst
            clear hst
            go_wp2
            have hvv := HH.out.2.2.2.2.2.2.2.1
            have hkl : k < vs1.length := by rw [HX.out.2.2.2.2.2.2.2.2.2.1]; exact hlt
            have hWv : WtAt w10 tb (.slice (some ⟨g, 0, none⟩) n0 cc) vs1 := by rw [← hvv]; exact HX.out.2.2.1.below H10.out.1
            have hq0 := HX.out.2.2.2.2.2.2.2.1.2.2.2.1.1
            have hq1 := HX.out.2.2.2.2.2.2.2.1.2.2.2.1.2
            have hwr : IntKind.i64.wrap (s.q.sq + 1) = s.q.sq + 1 := by rw [IntKind.wrap_i64]; omega
            have htm : Int.tmod (s.q.sq + 1) 16777216 = (s.q.sq + 1) % 16777216 := Int.tmod_eq_emod_of_nonneg (by omega)
            have hwr2 : IntKind.i64.wrap ((s.q.sq + 1) % 16777216) = (s.q.sq + 1) % 16777216 := by rw [IntKind.wrap_i64]; omega
            have hset : vs1.set k s = vs1 := by
              obtain ⟨h1, h2⟩ := List.getElem?_eq_some_iff.1 HX.out.2.2.2.2.2.1
              rw [← h2]; exact List.set_getElem_self h1
            have hD0 : DS w10 tb (.slice (some ⟨g, 0, none⟩) n0 cc) vs1 k s uu T (fun _ => false) (none, s) w10.drew :=
              ⟨Fx.below (Below.drew (Below.refl _ _)), by rw [hset]; exact hWv.below (Below.drew (Below.refl _ _)), ⟨rfl, rfl, rfl, rfl⟩, fun _ => rfl, (fun h => by cases h), (fun h => by cases h), (fun h => by cases h), (fun h => by cases h), fun _ => rfl, fun p hp => by cases hp⟩
            have HQ := Lib.hid (And.intro hkl (And.intro hwr (And.intro htm (And.intro hwr2 (And.intro hD0 (And.intro hWv hvv))))))
            have hbn : wr.heap.size < w10.heap.size ∧ wr.heap.size ≠ tb ∧ g < wr.heap.size := by
              refine ⟨by have h1 := H10.out.2.1.size; have h2 := H9.out.2.1; omega, ?_, HX.out.2.2.2.2.2.2.2.2.2.2.2⟩
              have := HX.out.2.2.1.lt; omega
            have HBN := Lib.hid hbn
            clear hvv hkl hWv hq0 hq1 hwr htm hwr2 hset hD0 hbn
            try dsimp only
            refine wp_region_relG2 (DS w10 tb (.slice (some ⟨g, 0, none⟩) n0 cc) vs1 k s uu T) (DT tb (.slice (some ⟨g, 0, none⟩) n0 cc)) (DR tb g k s uu T) [(9, .pointer (some ⟨g, k * 21, none⟩)), (10, .pointer (some ⟨wr.heap.size, 0, none⟩)), (2, .int .i64 T)] (by kernel_rfl) (by kernel_rfl) (by kernel_rfl) ?base (none, s) HQ.out.2.2.2.2.1 dr_up ?steps ?fin
            case base =>
              intro x hx
              simp only [List.mem_cons, List.not_mem_nil, or_false] at hx
              rcases hx with rfl | rfl | rfl <;> exact ⟨rfl, rfl⟩
            case steps =>
              refine steps_cons ?_ (steps_cons ?_ (steps_cons ?_ (steps_cons ?_ (steps_cons ?_ (steps_cons ?_ (steps_cons ?_ (steps_cons ?_ (steps_cons ?_ (steps_cons ?_ (steps_cons ?_ (steps_cons ?_ (steps_cons ?_ (steps_cons ?_ (steps_cons ?_ (steps_cons ?_ (steps_cons ?_ (steps_cons ?_ (steps_cons ?_ (steps_cons ?_ (steps_cons ?_ steps_nil))))))))))))))))))))
              · intro a wx L gh K hLi hLd hS hB hR hK
                rw [if_pos (wanted_none rfl)]
                have h9 := tmp_is (hB.1)
                go_simp
                exact hK (.pointer (some ⟨g, k * 21, none⟩)) wx gh (hS.quiet 0 (by decide)) (fun p h => h) rfl
              · intro a wx L gh K hLi hLd hS hB hR hK
                rw [if_pos (wanted_none rfl)]
                have h9 := tmp_is (hB.1)
                go_simp
                exact hK (.pointer (some ⟨g, k * 21, none⟩)) wx gh (hS.quiet 1 (by decide)) (fun p h => h) rfl
              · intro a wx L gh K hLi hLd hS hB hR hK
                rw [if_pos (wanted_none rfl)]
                have h9 := tmp_is (hB.1)
                go_simp
                exact hK (.pointer (some ⟨g, k * 21, none⟩)) wx gh (hS.quiet 2 (by decide)) (fun p h => h) rfl
              · intro a wx L gh K hLi hLd hS hB hR hK
                rw [if_pos (wanted_none rfl)]
                have hva := H10.out.2.2.keep (hS.fr.block wr.heap.size HBN.out.1 HBN.out.2.1 (fun e => by injection e with e; have e1 : wr.heap.size = g := e; have := HBN.out.2.2; omega))
                refine wp_load_mid 34 (.tmp 10) (by rfl) wr.heap.size 0 (hB.2.1) (vK.vals uu) _ hva.r Try.underlying34 rfl size_vl ?_
                exact hK (.agg (vK.vals uu).toArray) wx gh (hS.quiet 3 (by decide)) (fun p h => h) rfl
              · intro a wx L gh K hLi hLd hS hB hR hK
                rw [if_pos (wanted_none rfl)]
                have h49 := tmp_is (hR.1)
                go_simp
                refine (vclone_f uu.q uu.A uu.n uu.c wx _ (HUB.out w10 H10.out.1 wx hS.fr) (Nat.le_refl _) HU.out.2.1 HU.out.2.2.1).mono ?_
                rintro e w3 ⟨A3, c3, rfl, ho3, b3⟩
                obtain ⟨hS2, hT2⟩ := hS.call hLi b3 (A3, c3) ho3
                exact hK _ w3 _ hS2 hT2 ⟨(A3, c3), rfl, rfl⟩
              · intro a wx L gh K hLi hLd hS hB hR hK
                rw [if_pos (wanted_none rfl)]
                have h2 := tmp_is (hB.2.2.1)
                go_simp
                exact hK (.int .i64 T) wx gh (hS.quiet 5 (by decide)) (fun p h => h) rfl
              · intro a wx L gh K hLi hLd hS hB hR hK
                rw [if_pos (wanted_none rfl)]
                have h9 := tmp_is (hB.1)
                go_simp
                exact hK (.pointer (some ⟨g, k * 21, none⟩)) wx gh (hS.quiet 6 (by decide)) (fun p h => h) rfl
              · intro a wx L gh K hLi hLd hS hB hR hK
                rw [if_pos (wanted_none rfl)]
                have h52 := tmp_is (hR.1)
                go_simp
                exact hK (.pointer (some ⟨g, k * 21, none⟩)) wx gh (hS.quiet 7 (by decide)) (fun p h => h) rfl
              · intro a wx L gh K hLi hLd hS hB hR hK
                rw [if_pos (wanted_none rfl)]
                have h53 := tmp_is (hR.1)
                go_simp
                exact hK (.pointer (some ⟨g, k * 21 + 20, none⟩)) wx gh (hS.quiet 8 (by decide)) (fun p h => h) rfl
              · intro a wx L gh K hLi hLd hS hB hR hK
                rw [if_pos (wanted_none rfl)]
                have h54 := tmp_is (hR.1)
                have hc : wx.cell? ⟨g, k * 21 + 20, none⟩ = some (.int .i64 gh.2.q.sq) := hS.elem HQ.out.1 20 _ rfl
                rw [hS.sq0 (by cases h20 : L 20 with | false => rfl | true => rw [hS.need h20] at hLi; cases hLi)] at hc
                go_simp
                exact hK (.int .i64 s.q.sq) wx gh (hS.quiet 9 (by decide)) (fun p h => h) rfl
              · intro a wx L gh K hLi hLd hS hB hR hK
                rw [if_pos (wanted_none rfl)]
                have h55 := tmp_is (hR.1)
                have hw := HQ.out.2.1
                go_simp
                exact hK (.int .i64 (s.q.sq + 1)) wx gh (hS.quiet 10 (by decide)) (fun p h => h) rfl
              · intro a wx L gh K hLi hLd hS hB hR hK
                rw [if_pos (wanted_none rfl)]
                have h56 := tmp_is (hR.1)
                have hw := HQ.out.2.2.1
                have hw2 := HQ.out.2.2.2.1
                go_simp
                exact hK (.int .i64 ((s.q.sq + 1) % 16777216)) wx gh (hS.quiet 11 (by decide)) (fun p h => h) rfl
              · intro a wx L gh K hLi hLd hS hB hR hK
                rw [if_pos (wanted_none rfl)]
                have h46 := tmp_is (hR.1)
                go_simp
                exact hK (.pointer (some ⟨g, k * 21, none⟩)) wx gh (hS.quiet 12 (by decide)) (fun p h => h) rfl
              · intro a wx L gh K hLi hLd hS hB hR hK
                rw [if_pos (wanted_none rfl)]
                have h58 := tmp_is (hR.1)
                go_simp
                exact hK (.pointer (some ⟨g, k * 21 + 13, none⟩)) wx gh (hS.quiet 13 (by decide)) (fun p h => h) rfl
              · intro a wx L gh K hLi hLd hS hB hR hK
                rw [if_pos (wanted_none rfl)]
                obtain ⟨p, hp, hv⟩ := hR.2.1
                obtain ⟨hS2, hth⟩ := hS.storeV HQ.out.1 hp ⟨HU.out.2.1, HU.out.2.2.1, HU.out.2.2.2.1⟩
                refine wp_store_mid 34 (.tmp 59) (.tmp 50) (by rfl) g (k * 21 + 13) (vvals uu.q p.1 uu.n p.2).toArray (hR.1) hv hth size_vl (all_oneCell_toArray (vv_one uu.q p.1 uu.n p.2)) ?_
                exact hK undef _ _ hS2 (fun p h => h) trivial
              · intro a wx L gh K hLi hLd hS hB hR hK
                rw [if_pos (wanted_none rfl)]
                have h47 := tmp_is (hR.1)
                go_simp
                exact hK (.pointer (some ⟨g, k * 21, none⟩)) wx gh (hS.quiet 15 (by decide)) (fun p h => h) rfl
              · intro a wx L gh K hLi hLd hS hB hR hK
                rw [if_pos (wanted_none rfl)]
                have h60 := tmp_is (hR.1)
                go_simp
                exact hK (.pointer (some ⟨g, k * 21 + 19, none⟩)) wx gh (hS.quiet 16 (by decide)) (fun p h => h) rfl
              · intro a wx L gh K hLi hLd hS hB hR hK
                rw [if_pos (wanted_none rfl)]
                have h61 := tmp_is (hR.1)
                have h51 := tmp_is (hR.2.1)
                obtain ⟨hS2, hth⟩ := hS.storeT HQ.out.1 HH.out.2.2.2.2.2.2.1
                have hc0 := (hth 0 (by decide)).1
                have hf := (hth 0 (by decide)).2
                obtain ⟨x, hx⟩ := Option.isSome_iff_exists.1 hc0
                rw [Nat.add_zero] at hx hf
                go_simp
                exact hK undef _ _ hS2 (fun p h => h) trivial
              · intro a wx L gh K hLi hLd hS hB hR hK
                rw [if_pos (wanted_none rfl)]
                have h48 := tmp_is (hR.1)
                go_simp
                exact hK (.pointer (some ⟨g, k * 21, none⟩)) wx gh (hS.quiet 18 (by decide)) (fun p h => h) rfl
              · intro a wx L gh K hLi hLd hS hB hR hK
                rw [if_pos (wanted_none rfl)]
                have h62 := tmp_is (hR.1)
                go_simp
                exact hK (.pointer (some ⟨g, k * 21 + 20, none⟩)) wx gh (hS.quiet 19 (by decide)) (fun p h => h) rfl
              · intro a wx L gh K hLi hLd hS hB hR hK
                rw [if_pos (wanted_none rfl)]
                have h63 := tmp_is (hR.1)
                have h57 := tmp_is (hR.2.1)
                obtain ⟨hS2, hth⟩ := hS.storeS HQ.out.1 (hLd 9 (by decide))
                have hc0 := (hth 0 (by decide)).1
                have hf := (hth 0 (by decide)).2
                obtain ⟨x, hx⟩ := Option.isSome_iff_exists.1 hc0
                rw [Nat.add_zero] at hx hf
                go_simp
                exact hK undef _ _ hS2 (fun p h => h) trivial
            case fin =>
              intro a w11 L gh hS hL ha hR
              have hdone := hS.done ⟨hL 14 (by decide), hL 17 (by decide), hL 20 (by decide)⟩
              obtain ⟨gh1, sx⟩ := gh
              dsimp only at hdone
              have hmem := hS.mem HQ.out.1
              have hel := hS.elem HQ.out.1
              dsimp only at hmem hel
              have hF11 : Fx tb v.ownBlock wr w11 := by rw [HQ.out.2.2.2.2.2.2]; exact (Fx.below H10.out.1).trans hS.fr
              have hT11 : WtAt w11 tb v (vs1.set k sx) := by rw [HQ.out.2.2.2.2.2.2]; exact hS.tab
              have H11 := Lib.hid (And.intro hdone (And.intro hmem (And.intro hF11 hT11)))
              clear hR hS hL hdone hmem hF11 hT11
              simp only [pin] at ha
              rw [ha]
              simp only [List.setIfInBounds_toArray, List.set_cons_zero, List.set_cons_succ]
              clear ha
              have hcl := Lib.hid (wclone_f sx w11 _ (H11.out.2.1.1.rd) (Nat.le_refl _) H11.out.2.1.2.1)
              have htold := HX.out.1.fx H11.out.2.2.1 HH.out.2.2.2.2.2.2.2.2.2.2 (fun j hj => (HH.out.1.row.lt j hj).2)
              have HT := Lib.hid htold
              clear htold
              have hm6 : m + 1 ≤ 6 := by omega
              go_wp2_with (first
                | (refine wpList_load_mid rfl 37 (.tmp 66) rfl g (k * 21) rfl sx.vals _ hel Try.underlying37 rfl size_wr ?_)
                | (go_at_call 34; refine hcl.out.mono ?_; rintro e w12 ⟨s', rfl, hq', hok', hsm', b12⟩; have H12 := Lib.hid (And.intro hq' (And.intro hok' (And.intro hsm' b12))); clear hq' hok' hsm' b12)
                | (refine wpList_buildSlice rfl 38 37 1 #[(0, .tmp 68)] rfl s'.vals.toArray i0 _ Try.underlying38 hi0 hz0 (by rw [hz1]; decide) (by rw [hz1]; decide) (build_wr _ s' _ rfl i0 hz0 hz1) ?_)
                | (at_builtin; go_loud (refine wK.append_one w12 rfl (.tmp 64) (.tmp 69) 38 rfl w.heap.size 37 i0 _ 200 Try.underlying38 hi0 hz0 hz1 hz2 rfl (.slice A' m c') m X rfl (rk_below HT.out.row H12.out.2.2.2) s' s'.vals.toArray rfl _ rfl (by omega) (by unfold maxLen; omega) (by have h1 := HX.out.2.2.2.2.1.size; have h2 := H11.out.2.2.1.size; have h3 := H12.out.2.2.2.size; omega) ?_); intro A6 c6 w6 hown6 hgr6; have H6 := Lib.hid (And.intro hown6 hgr6); clear hown6 hgr6))
              go_roundw
              case rel =>
                have z1 := HX.out.2.2.2.2.1.size
                have z2 := H11.out.2.2.1.size
                have hrow12 := (rk_below HT.out.row H12.out.2.2.2).alloc (.cells s'.vals.toArray 37)
                have hw12 := (H11.out.2.2.2.below H12.out.2.2.2).below (alloc_below w12 (.cells s'.vals.toArray 37))
                have hPl : (passQ (us.map Vr.q) T 0 (qs.take k)).1.length = k := by rw [passQ_len, List.length_take, HH.out.2.2.2.2.2.2.2.2.2.1]; omega
                refine ⟨k + 1, m + 1, c6, A6, by omega, by omega, by go_num, rfl, (show Aside _ from ⟨X ++ [s'], vs1.set k sx, HT.out.push H12.out.2.2.2 (by omega) H12.out.2.1 H12.out.2.2.1 H6.out.1 H6.out.2, ?_, hw12.growo hrow12 (fun j hj => (HH.out.1.row.lt j hj).2) HH.out.2.2.2.2.2.2.2.2.2.2 H6.out.2, ?_, ?_⟩)⟩
                · rw [List.map_append, HX.out.2.1, HS.out, show ([s'].map Wr.q) = [s'.q] from rfl, H12.out.1, H11.out.1]
                · rw [List.map_set, HX.out.2.2.2.1, HS.out, H11.out.1, set_at hPl HX.out.2.2.2.2.2.2.1]
                · exact (((HX.out.2.2.2.2.1.trans H11.out.2.2.1).trans (Fx.below H12.out.2.2.2)).trans (Fx.below (alloc_below w12 _))).then_ (Fx.grown H6.out.2) (fun j hj => .inr (HT.out.row.lt j hj).1)
              case measure => simp [intOf]; omega
      · have hknI : ¬ (k : Int) < n := by omega
        obtain ⟨uu, huu⟩ : ∃ uu : Vr, uu = ⟨s.q.v, s.bA, s.bn, s.bc⟩ := ⟨_, rfl⟩
        replace hrv : wr.rangeAt g (k * 21 + 13) (vK.vals uu) := by rw [huu]; exact hrv
        have Huu := Lib.hid huu
        clear huu
        go_wp2_with (first
          | (refine wpList_load_mid rfl 34 (.tmp 29) rfl g (k * 21 + 13) rfl (vK.vals uu) _ hrv Try.underlying34 rfl size_vl ?_)
          | (refine wpList_store_mid rfl 34 (.tmp 10) (.tmp 30) rfl wr.heap.size 0 (vK.vals uu).toArray rfl rfl hthn size_vl (all_oneCell_toArray (vK.one uu)) ?_
             refine gen_world (F := fun W => wpList Try.prog _ _ _ _ W) (fun W => Below wr.heap.size wr W ∧ W.heap.size = wr.heap.size + 1 ∧ ValAt W wr.heap.size uu) (val_new wr uu) ?_
             rintro w9 H9'
             have H9 := Lib.hid H9'
             clear H9'))
        have hux : uu.q = ((us.map Vr.q)[k]?).getD s.q.v := by
          rw [List.getElem?_eq_none (by rw [List.length_map]; have := (HH.out.2.1 w (Fx.refl _ _ _)).1.len; omega), Huu.out]; rfl
        have hu1 : Bs w9 w9.heap.size uu.A uu.n uu.q.b := by rw [Huu.out]; exact (HX.out.2.2.2.2.2.2.2.1.1.2.2.bs.below H9.out.1).more H9.out.1.size
        have hu2 : (uu.n : Int) ≤ 1048576 ∧ uu.q.s.size ≤ 1048576 ∧ In64 uu.q.n := by rw [Huu.out]; exact ⟨HX.out.2.2.2.2.2.2.2.1.2.1.2.2.1, HX.out.2.2.2.2.2.2.2.1.2.1.2.2.2, HX.out.2.2.2.2.2.2.2.1.2.2.2.2⟩
        have hub : ∀ W1, Below wr.heap.size wr W1 → ∀ W, Fx tb (Value.ownBlock (.slice (some ⟨g, 0, none⟩) n0 cc)) W1 W → Bs W W.heap.size uu.A uu.n uu.q.b := fun W1 h1 W hf => by
          have ht := HX.out.2.2.1.below h1
          rw [HH.out.2.2.2.2.2.2.2.1] at ht
          rw [Huu.out]
          exact ((HX.out.2.2.2.2.2.2.2.1.1.below h1).fxt hf ht.blk ht.row).2.2.bs
        have HUB := Lib.hid hub
        clear hub
        have HU := Lib.hid (And.intro hu1 (And.intro hu2.1 (And.intro hu2.2.1 (And.intro hu2.2.2 hux))))
        clear hu1 hu2
        clear hux
        have hD := fun W (hW : Below w9.heap.size w9 W) => isdue_f s uu.q uu.A uu.n uu.c T W (HX.out.2.2.2.2.2.2.2.1.1.2.2.bs.below' (H9.out.1.trans (hW.mono H9.out.1.size)) (Nat.le_refl _) |>.lt) ((HU.out.1.below hW).lt) HH.out.2.2.2.2.2.2.1 HX.out.2.2.2.2.2.2.2.1.2.2.1 HX.out.2.2.2.2.2.2.2.1.2.2.2.2 HU.out.2.2.2.1
        obtain ⟨D, hDD⟩ : ∃ D, dueQ s.q.c s.q.v s.q.t uu.q T = D := ⟨_, rfl⟩
        simp only [hDD] at hD
        have HD := Lib.hid (And.intro hD hDD)
        clear hD hDD
        refine wp_region_rel2 (fun W => Below w9.heap.size w9 W) (fun W W' => Below W.heap.size W W') (IsR g k wr.heap.size s uu T D) [(9, .pointer (some ⟨g, k * 21, none⟩)), (10, .pointer (some ⟨wr.heap.size, 0, none⟩)), (2, .int .i64 T)] (by kernel_rfl) (by kernel_rfl) (by kernel_rfl) ?base (Below.drew (Below.refl _ _)) isr_up ?steps ?fin
        case base =>
          intro x hx
          simp only [List.mem_cons, List.not_mem_nil, or_false] at hx
          rcases hx with rfl | rfl | rfl <;> exact ⟨rfl, rfl⟩
        case steps =>
          refine steps_cons ?_ (steps_cons ?_ (steps_cons ?_ (steps_cons ?_ (steps_cons ?_ (steps_cons ?_ (steps_cons ?_ steps_nil))))))
          · intro a wx K hS hB hR hK
            rw [if_pos (wanted_none rfl)]
            have h9 := tmp_is (hB.1)
            go_simp
            exact hK (.pointer (some ⟨g, k * 21, none⟩)) wx hS (Below.refl _ _) rfl
          · intro a wx K hS hB hR hK
            rw [if_pos (wanted_none rfl)]
            have h39 := tmp_is (hR.1)
            go_simp
            exact hK (.pointer (some ⟨g, k * 21, none⟩)) wx hS (Below.refl _ _) rfl
          · intro a wx K hS hB hR hK
            rw [if_pos (wanted_none rfl)]
            have hrg := range_below (range_below HX.out.2.2.2.2.2.2.2.2.1 H9.out.1 HX.out.2.2.2.2.2.2.2.2.2.2.2) hS (Nat.lt_of_lt_of_le HX.out.2.2.2.2.2.2.2.2.2.2.2 H9.out.1.size)
            refine wp_load_mid 37 (.tmp 40) (by rfl) g (k * 21) (hR.1) s.vals _ hrg Try.underlying37 rfl size_wr ?_
            exact hK (.agg s.vals.toArray) wx hS (Below.refl _ _) rfl
          · intro a wx K hS hB hR hK
            rw [if_pos (wanted_none rfl)]
            have hrg := range_below H9.out.2.2.r hS (by have := H9.out.2.1; omega)
            refine wp_load_mid 34 (.tmp 10) (by rfl) wr.heap.size 0 (hB.2.1) (vK.vals uu) _ hrg Try.underlying34 rfl size_vl ?_
            exact hK (.agg (vK.vals uu).toArray) wx hS (Below.refl _ _) rfl
          · intro a wx K hS hB hR hK
            rw [if_pos (wanted_none rfl)]
            have h2 := tmp_is (hB.2.2.1)
            go_simp
            exact hK (.int .i64 T) wx hS (Below.refl _ _) rfl
          · intro a wx K hS hB hR hK
            rw [if_pos (wanted_none rfl)]
            have h41 := tmp_is (hR.1)
            have h42 := tmp_is (hR.2.1)
            have h43 := tmp_is (hR.2.2.1)
            go_simp
            refine (HD.out.1 wx hS).mono ?_
            rintro e w3 ⟨rfl, b3⟩
            exact hK _ w3 (hS.trans (b3.mono hS.size)) b3 rfl
          · intro a wx K hS hB hR hK
            rw [if_pos (wanted_none rfl)]
            have h44 := tmp_is (hR.1)
            go_simp
            exact hK (.bool (!D)) wx hS (Below.refl _ _) rfl
        case fin =>
          intro a w10 hS10 ha hR
          have hx45 : a.eval (.tmp 45) = .bool (!D) := deps_mem _ hR 6 (by decide)
          have hb10 := H9.out.1.trans (hS10.mono H9.out.1.size)
          have H10 := Lib.hid (And.intro hb10 (And.intro hS10 (H9.out.2.2.keep (hS10.block wr.heap.size (by have := H9.out.2.1; omega)))))
          clear hR hS10 hb10
          simp only [pin] at ha
          rw [ha]
          simp only [List.setIfInBounds_toArray, List.set_cons_zero, List.set_cons_succ, hx45]
          clear ha hx45
          have hst := pass_step (us := us.map Vr.q) (T := T) HX.out.2.2.2.2.2.2.1
          rw [← HU.out.2.2.2.2, HD.out.2] at hst
          cases D with
          | false =>
            rw [if_neg (by decide)] at hst
            have HS := Lib.hid hst
            clear hst
            go_wp2
            go_roundw
            case rel => exact ⟨k + 1, m, c', A', by omega, by omega, by go_num, rfl, (show Aside _ from ⟨X, vs1, HX.out.1.below H10.out.1, by rw [HS.out]; exact HX.out.2.1, HX.out.2.2.1.below H10.out.1, by rw [HS.out, HX.out.2.2.2.1, List.append_assoc, List.singleton_append, drop_at HX.out.2.2.2.2.2.2.1], HX.out.2.2.2.2.1.trans (Fx.below H10.out.1)⟩)⟩
            case measure => simp [intOf]; omega
          | true =>
            rw [if_pos rfl] at hst
            have HS := Lib.hid hst
            clear hst
            go_wp2
            have hvv := HH.out.2.2.2.2.2.2.2.1
            have hkl : k < vs1.length := by rw [HX.out.2.2.2.2.2.2.2.2.2.1]; exact hlt
            have hWv : WtAt w10 tb (.slice (some ⟨g, 0, none⟩) n0 cc) vs1 := by rw [← hvv]; exact HX.out.2.2.1.below H10.out.1
            have hq0 := HX.out.2.2.2.2.2.2.2.1.2.2.2.1.1
            have hq1 := HX.out.2.2.2.2.2.2.2.1.2.2.2.1.2
            have hwr : IntKind.i64.wrap (s.q.sq + 1) = s.q.sq + 1 := by rw [IntKind.wrap_i64]; omega
            have htm : Int.tmod (s.q.sq + 1) 16777216 = (s.q.sq + 1) % 16777216 := Int.tmod_eq_emod_of_nonneg (by omega)
            have hwr2 : IntKind.i64.wrap ((s.q.sq + 1) % 16777216) = (s.q.sq + 1) % 16777216 := by rw [IntKind.wrap_i64]; omega
            have hset : vs1.set k s = vs1 := by
              obtain ⟨h1, h2⟩ := List.getElem?_eq_some_iff.1 HX.out.2.2.2.2.2.1
              rw [← h2]; exact List.set_getElem_self h1
            have hD0 : DS w10 tb (.slice (some ⟨g, 0, none⟩) n0 cc) vs1 k s uu T (fun _ => false) (none, s) w10.drew :=
              ⟨Fx.below (Below.drew (Below.refl _ _)), by rw [hset]; exact hWv.below (Below.drew (Below.refl _ _)), ⟨rfl, rfl, rfl, rfl⟩, fun _ => rfl, (fun h => by cases h), (fun h => by cases h), (fun h => by cases h), (fun h => by cases h), fun _ => rfl, fun p hp => by cases hp⟩
            have HQ := Lib.hid (And.intro hkl (And.intro hwr (And.intro htm (And.intro hwr2 (And.intro hD0 (And.intro hWv hvv))))))
            have hbn : wr.heap.size < w10.heap.size ∧ wr.heap.size ≠ tb ∧ g < wr.heap.size := by
              refine ⟨by have h1 := H10.out.2.1.size; have h2 := H9.out.2.1; omega, ?_, HX.out.2.2.2.2.2.2.2.2.2.2.2⟩
              have := HX.out.2.2.1.lt; omega
            have HBN := Lib.hid hbn
            clear hvv hkl hWv hq0 hq1 hwr htm hwr2 hset hD0 hbn
            try dsimp only
            refine wp_region_relG2 (DS w10 tb (.slice (some ⟨g, 0, none⟩) n0 cc) vs1 k s uu T) (DT tb (.slice (some ⟨g, 0, none⟩) n0 cc)) (DR tb g k s uu T) [(9, .pointer (some ⟨g, k * 21, none⟩)), (10, .pointer (some ⟨wr.heap.size, 0, none⟩)), (2, .int .i64 T)] (by kernel_rfl) (by kernel_rfl) (by kernel_rfl) ?base (none, s) HQ.out.2.2.2.2.1 dr_up ?steps ?fin
            case base =>
              intro x hx
              simp only [List.mem_cons, List.not_mem_nil, or_false] at hx
              rcases hx with rfl | rfl | rfl <;> exact ⟨rfl, rfl⟩
            case steps =>
              refine steps_cons ?_ (steps_cons ?_ (steps_cons ?_ (steps_cons ?_ (steps_cons ?_ (steps_cons ?_ (steps_cons ?_ (steps_cons ?_ (steps_cons ?_ (steps_cons ?_ (steps_cons ?_ (steps_cons ?_ (steps_cons ?_ (steps_cons ?_ (steps_cons ?_ (steps_cons ?_ (steps_cons ?_ (steps_cons ?_ (steps_cons ?_ (steps_cons ?_ (steps_cons ?_ steps_nil))))))))))))))))))))
              · intro a wx L gh K hLi hLd hS hB hR hK
                rw [if_pos (wanted_none rfl)]
                have h9 := tmp_is (hB.1)
                go_simp
                exact hK (.pointer (some ⟨g, k * 21, none⟩)) wx gh (hS.quiet 0 (by decide)) (fun p h => h) rfl
              · intro a wx L gh K hLi hLd hS hB hR hK
                rw [if_pos (wanted_none rfl)]
                have h9 := tmp_is (hB.1)
                go_simp
                exact hK (.pointer (some ⟨g, k * 21, none⟩)) wx gh (hS.quiet 1 (by decide)) (fun p h => h) rfl
              · intro a wx L gh K hLi hLd hS hB hR hK
                rw [if_pos (wanted_none rfl)]
                have h9 := tmp_is (hB.1)
                go_simp
                exact hK (.pointer (some ⟨g, k * 21, none⟩)) wx gh (hS.quiet 2 (by decide)) (fun p h => h) rfl
              · intro a wx L gh K hLi hLd hS hB hR hK
                rw [if_pos (wanted_none rfl)]
                have hva := H10.out.2.2.keep (hS.fr.block wr.heap.size HBN.out.1 HBN.out.2.1 (fun e => by injection e with e; have e1 : wr.heap.size = g := e; have := HBN.out.2.2; omega))
                refine wp_load_mid 34 (.tmp 10) (by rfl) wr.heap.size 0 (hB.2.1) (vK.vals uu) _ hva.r Try.underlying34 rfl size_vl ?_
                exact hK (.agg (vK.vals uu).toArray) wx gh (hS.quiet 3 (by decide)) (fun p h => h) rfl
              · intro a wx L gh K hLi hLd hS hB hR hK
                rw [if_pos (wanted_none rfl)]
                have h49 := tmp_is (hR.1)
                go_simp
                refine (vclone_f uu.q uu.A uu.n uu.c wx _ (HUB.out w10 H10.out.1 wx hS.fr) (Nat.le_refl _) HU.out.2.1 HU.out.2.2.1).mono ?_
                rintro e w3 ⟨A3, c3, rfl, ho3, b3⟩
                obtain ⟨hS2, hT2⟩ := hS.call hLi b3 (A3, c3) ho3
                exact hK _ w3 _ hS2 hT2 ⟨(A3, c3), rfl, rfl⟩
              · intro a wx L gh K hLi hLd hS hB hR hK
                rw [if_pos (wanted_none rfl)]
                have h2 := tmp_is (hB.2.2.1)
                go_simp
                exact hK (.int .i64 T) wx gh (hS.quiet 5 (by decide)) (fun p h => h) rfl
              · intro a wx L gh K hLi hLd hS hB hR hK
                rw [if_pos (wanted_none rfl)]
                have h9 := tmp_is (hB.1)
                go_simp
                exact hK (.pointer (some ⟨g, k * 21, none⟩)) wx gh (hS.quiet 6 (by decide)) (fun p h => h) rfl
              · intro a wx L gh K hLi hLd hS hB hR hK
                rw [if_pos (wanted_none rfl)]
                have h52 := tmp_is (hR.1)
                go_simp
                exact hK (.pointer (some ⟨g, k * 21, none⟩)) wx gh (hS.quiet 7 (by decide)) (fun p h => h) rfl
              · intro a wx L gh K hLi hLd hS hB hR hK
                rw [if_pos (wanted_none rfl)]
                have h53 := tmp_is (hR.1)
                go_simp
                exact hK (.pointer (some ⟨g, k * 21 + 20, none⟩)) wx gh (hS.quiet 8 (by decide)) (fun p h => h) rfl
              · intro a wx L gh K hLi hLd hS hB hR hK
                rw [if_pos (wanted_none rfl)]
                have h54 := tmp_is (hR.1)
                have hc : wx.cell? ⟨g, k * 21 + 20, none⟩ = some (.int .i64 gh.2.q.sq) := hS.elem HQ.out.1 20 _ rfl
                rw [hS.sq0 (by cases h20 : L 20 with | false => rfl | true => rw [hS.need h20] at hLi; cases hLi)] at hc
                go_simp
                exact hK (.int .i64 s.q.sq) wx gh (hS.quiet 9 (by decide)) (fun p h => h) rfl
              · intro a wx L gh K hLi hLd hS hB hR hK
                rw [if_pos (wanted_none rfl)]
                have h55 := tmp_is (hR.1)
                have hw := HQ.out.2.1
                go_simp
                exact hK (.int .i64 (s.q.sq + 1)) wx gh (hS.quiet 10 (by decide)) (fun p h => h) rfl
              · intro a wx L gh K hLi hLd hS hB hR hK
                rw [if_pos (wanted_none rfl)]
                have h56 := tmp_is (hR.1)
                have hw := HQ.out.2.2.1
                have hw2 := HQ.out.2.2.2.1
                go_simp
                exact hK (.int .i64 ((s.q.sq + 1) % 16777216)) wx gh (hS.quiet 11 (by decide)) (fun p h => h) rfl
              · intro a wx L gh K hLi hLd hS hB hR hK
                rw [if_pos (wanted_none rfl)]
                have h46 := tmp_is (hR.1)
                go_simp
                exact hK (.pointer (some ⟨g, k * 21, none⟩)) wx gh (hS.quiet 12 (by decide)) (fun p h => h) rfl
              · intro a wx L gh K hLi hLd hS hB hR hK
                rw [if_pos (wanted_none rfl)]
                have h58 := tmp_is (hR.1)
                go_simp
                exact hK (.pointer (some ⟨g, k * 21 + 13, none⟩)) wx gh (hS.quiet 13 (by decide)) (fun p h => h) rfl
              · intro a wx L gh K hLi hLd hS hB hR hK
                rw [if_pos (wanted_none rfl)]
                obtain ⟨p, hp, hv⟩ := hR.2.1
                obtain ⟨hS2, hth⟩ := hS.storeV HQ.out.1 hp ⟨HU.out.2.1, HU.out.2.2.1, HU.out.2.2.2.1⟩
                refine wp_store_mid 34 (.tmp 59) (.tmp 50) (by rfl) g (k * 21 + 13) (vvals uu.q p.1 uu.n p.2).toArray (hR.1) hv hth size_vl (all_oneCell_toArray (vv_one uu.q p.1 uu.n p.2)) ?_
                exact hK undef _ _ hS2 (fun p h => h) trivial
              · intro a wx L gh K hLi hLd hS hB hR hK
                rw [if_pos (wanted_none rfl)]
                have h47 := tmp_is (hR.1)
                go_simp
                exact hK (.pointer (some ⟨g, k * 21, none⟩)) wx gh (hS.quiet 15 (by decide)) (fun p h => h) rfl
              · intro a wx L gh K hLi hLd hS hB hR hK
                rw [if_pos (wanted_none rfl)]
                have h60 := tmp_is (hR.1)
                go_simp
                exact hK (.pointer (some ⟨g, k * 21 + 19, none⟩)) wx gh (hS.quiet 16 (by decide)) (fun p h => h) rfl
              · intro a wx L gh K hLi hLd hS hB hR hK
                rw [if_pos (wanted_none rfl)]
                have h61 := tmp_is (hR.1)
                have h51 := tmp_is (hR.2.1)
                obtain ⟨hS2, hth⟩ := hS.storeT HQ.out.1 HH.out.2.2.2.2.2.2.1
                have hc0 := (hth 0 (by decide)).1
                have hf := (hth 0 (by decide)).2
                obtain ⟨x, hx⟩ := Option.isSome_iff_exists.1 hc0
                rw [Nat.add_zero] at hx hf
                go_simp
                exact hK undef _ _ hS2 (fun p h => h) trivial
              · intro a wx L gh K hLi hLd hS hB hR hK
                rw [if_pos (wanted_none rfl)]
                have h48 := tmp_is (hR.1)
                go_simp
                exact hK (.pointer (some ⟨g, k * 21, none⟩)) wx gh (hS.quiet 18 (by decide)) (fun p h => h) rfl
              · intro a wx L gh K hLi hLd hS hB hR hK
                rw [if_pos (wanted_none rfl)]
                have h62 := tmp_is (hR.1)
                go_simp
                exact hK (.pointer (some ⟨g, k * 21 + 20, none⟩)) wx gh (hS.quiet 19 (by decide)) (fun p h => h) rfl
              · intro a wx L gh K hLi hLd hS hB hR hK
                rw [if_pos (wanted_none rfl)]
                have h63 := tmp_is (hR.1)
                have h57 := tmp_is (hR.2.1)
                obtain ⟨hS2, hth⟩ := hS.storeS HQ.out.1 (hLd 9 (by decide))
                have hc0 := (hth 0 (by decide)).1
                have hf := (hth 0 (by decide)).2
                obtain ⟨x, hx⟩ := Option.isSome_iff_exists.1 hc0
                rw [Nat.add_zero] at hx hf
                go_simp
                exact hK undef _ _ hS2 (fun p h => h) trivial
            case fin =>
              intro a w11 L gh hS hL ha hR
              have hdone := hS.done ⟨hL 14 (by decide), hL 17 (by decide), hL 20 (by decide)⟩
              obtain ⟨gh1, sx⟩ := gh
              dsimp only at hdone
              have hmem := hS.mem HQ.out.1
              have hel := hS.elem HQ.out.1
              dsimp only at hmem hel
              have hF11 : Fx tb v.ownBlock wr w11 := by rw [HQ.out.2.2.2.2.2.2]; exact (Fx.below H10.out.1).trans hS.fr
              have hT11 : WtAt w11 tb v (vs1.set k sx) := by rw [HQ.out.2.2.2.2.2.2]; exact hS.tab
              have H11 := Lib.hid (And.intro hdone (And.intro hmem (And.intro hF11 hT11)))
              clear hR hS hL hdone hmem hF11 hT11
              simp only [pin] at ha
              rw [ha]
              simp only [List.setIfInBounds_toArray, List.set_cons_zero, List.set_cons_succ]
              clear ha
              have hcl := Lib.hid (wclone_f sx w11 _ (H11.out.2.1.1.rd) (Nat.le_refl _) H11.out.2.1.2.1)
              have htold := HX.out.1.fx H11.out.2.2.1 HH.out.2.2.2.2.2.2.2.2.2.2 (fun j hj => (HH.out.1.row.lt j hj).2)
              have HT := Lib.hid htold
              clear htold
              have hm6 : m + 1 ≤ 6 := by omega
              go_wp2_with (first
                | (refine wpList_load_mid rfl 37 (.tmp 66) rfl g (k * 21) rfl sx.vals _ hel Try.underlying37 rfl size_wr ?_)
                | (go_at_call 34; refine hcl.out.mono ?_; rintro e w12 ⟨s', rfl, hq', hok', hsm', b12⟩; have H12 := Lib.hid (And.intro hq' (And.intro hok' (And.intro hsm' b12))); clear hq' hok' hsm' b12)
                | (refine wpList_buildSlice rfl 38 37 1 #[(0, .tmp 68)] rfl s'.vals.toArray i0 _ Try.underlying38 hi0 hz0 (by rw [hz1]; decide) (by rw [hz1]; decide) (build_wr _ s' _ rfl i0 hz0 hz1) ?_)
                | (at_builtin; go_loud (refine wK.append_one w12 rfl (.tmp 64) (.tmp 69) 38 rfl w.heap.size 37 i0 _ 200 Try.underlying38 hi0 hz0 hz1 hz2 rfl (.slice A' m c') m X rfl (rk_below HT.out.row H12.out.2.2.2) s' s'.vals.toArray rfl _ rfl (by omega) (by unfold maxLen; omega) (by have h1 := HX.out.2.2.2.2.1.size; have h2 := H11.out.2.2.1.size; have h3 := H12.out.2.2.2.size; omega) ?_); intro A6 c6 w6 hown6 hgr6; have H6 := Lib.hid (And.intro hown6 hgr6); clear hown6 hgr6))
              go_roundw
              case rel =>
                have z1 := HX.out.2.2.2.2.1.size
                have z2 := H11.out.2.2.1.size
                have hrow12 := (rk_below HT.out.row H12.out.2.2.2).alloc (.cells s'.vals.toArray 37)
                have hw12 := (H11.out.2.2.2.below H12.out.2.2.2).below (alloc_below w12 (.cells s'.vals.toArray 37))
                have hPl : (passQ (us.map Vr.q) T 0 (qs.take k)).1.length = k := by rw [passQ_len, List.length_take, HH.out.2.2.2.2.2.2.2.2.2.1]; omega
                refine ⟨k + 1, m + 1, c6, A6, by omega, by omega, by go_num, rfl, (show Aside _ from ⟨X ++ [s'], vs1.set k sx, HT.out.push H12.out.2.2.2 (by omega) H12.out.2.1 H12.out.2.2.1 H6.out.1 H6.out.2, ?_, hw12.growo hrow12 (fun j hj => (HH.out.1.row.lt j hj).2) HH.out.2.2.2.2.2.2.2.2.2.2 H6.out.2, ?_, ?_⟩)⟩
                · rw [List.map_append, HX.out.2.1, HS.out, show ([s'].map Wr.q) = [s'.q] from rfl, H12.out.1, H11.out.1]
                · rw [List.map_set, HX.out.2.2.2.1, HS.out, H11.out.1, set_at hPl HX.out.2.2.2.2.2.2.1]
                · exact (((HX.out.2.2.2.2.1.trans H11.out.2.2.1).trans (Fx.below H12.out.2.2.2)).trans (Fx.below (alloc_below w12 _))).then_ (Fx.grown H6.out.2) (fun j hj => .inr (HT.out.row.lt j hj).1)
              case measure => simp [intOf]; omega
    · obtain rfl : k = n0 := by omega
      have hltI : ¬ (k : Int) < k := by omega
      rw [List.take_of_length_le (by rw [HH.out.2.2.2.2.2.2.2.2.2.1]; exact Nat.le_refl _)] at hXq hWq
      rw [List.drop_of_length_le (by rw [HH.out.2.2.2.2.2.2.2.2.2.1]; exact Nat.le_refl _), List.append_nil] at hWq
      have HX := Lib.hid (And.intro hX (And.intro hXq (And.intro hW (And.intro hWq hF))))
      clear hX hXq hW hWq hF hlt
      go_wp2
      go_ret
      exact ⟨_, _, _, X, vs1, rfl, HX.out.1, HX.out.2.1, HX.out.2.2.1, HX.out.2.2.2.1, HX.out.2.2.2.2⟩
end Go.Proofs.Ytmaeofhgbelciaa
