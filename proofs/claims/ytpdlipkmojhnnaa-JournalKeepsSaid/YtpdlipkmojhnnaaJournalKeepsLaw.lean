/-
  Pairs that stay while the journal is turned; a journal opened with its power.
-/
/-
  JournalKeeps: whatever is cut, the values are those of before or behind the step.
-/
import Derived.Test.YtpdlipkmojhnnaaJournalUp
import Derived.Test.YtpdlipkmojhnnaaJournalPairs
import Derived.Test.YtpdlipkmojhnnaaSame
import Derived.Deep.CutRange
import Derived.Deep.CutBlock
namespace Go.Proofs.Ytpdlipkmojhnnaa
open Go.RowKit Go.Maps Go.Shelf
set_option linter.unusedVariables false
set_option maxRecDepth 100000
set_option maxHeartbeats 4000000 in
theorem psame_yes (w : World) (A1 A2 : Option Addr) (n c1 c2 : Nat) (ps : List (Int × List UInt8)) (h1 : Prs w w.heap.size A1 n ps) (h2 : Prs w w.heap.size A2 n ps) (hn : n ≤ 32) (hl : ∀ x, x ∈ ps → x.2.length ≤ 250) :
    Calls Try.prog 13 #[.slice A1 n c1, .slice A2 n c2] w fun e w' => e = .returned (.bool true) ∧ Below w.heap.size w w' := by
  go_enter Try.func13, Try.ntmps13
  go_wp2
  go_loopw [5] (fun i wr => ∃ k : Nat, k ≤ n ∧ i = .int .i64 k ∧ Below w.heap.size w wr) (fun i _ => n - (intOf i).toNat)
  case atStart => exact ⟨0, by omega, rfl, Below.refl _ _⟩
  case round =>
    obtain ⟨k, hk, rfl, hB⟩ := hrel
    by_cases hlt : k < n
    · obtain ⟨x, hx⟩ : ∃ x, ps[k]? = some x := ⟨_, List.getElem?_eq_getElem (by have := h1.len; omega)⟩
      obtain ⟨b1, off1, rfl, hb1, hc1⟩ := h1.place (by omega)
      obtain ⟨b2, off2, rfl, hb2, hc2⟩ := h2.place (by omega)
      obtain ⟨P1, d1, x1, y1, z1⟩ := hc1 k x hx
      obtain ⟨P2, d2, x2, y2, z2⟩ := hc2 k x hx
      have hlx := hl x (List.mem_of_getElem? hx)
      have m1 : ∀ wq, Below w.heap.size w wq → wq.cell? ⟨b1, off1 + k * 2, none⟩ = some (.int .i64 x.1) ∧ wq.cell? ⟨b1, off1 + k * 2 + 1, none⟩ = some (.slice P1 x.2.length d1) := fun wq hq => by
        rw [Nat.mul_comm k 2]
        exact ⟨(hq.cell (p := ⟨b1, off1 + 2 * k, none⟩) hb1).trans x1, (hq.cell (p := ⟨b1, off1 + 2 * k + 1, none⟩) hb1).trans y1⟩
      have m2 : ∀ wq, Below w.heap.size w wq → wq.cell? ⟨b2, off2 + k * 2, none⟩ = some (.int .i64 x.1) ∧ wq.cell? ⟨b2, off2 + k * 2 + 1, none⟩ = some (.slice P2 x.2.length d2) := fun wq hq => by
        rw [Nat.mul_comm k 2]
        exact ⟨(hq.cell (p := ⟨b2, off2 + 2 * k, none⟩) hb2).trans x2, (hq.cell (p := ⟨b2, off2 + 2 * k + 1, none⟩) hb2).trans y2⟩
      have hbd : Below w.heap.size w wr.drew := hB.trans ((below_drew wr).mono hB.size)
      have ks : ∀ wq, Below w.heap.size w wq → Calls Try.prog 32 #[.slice P1 x.2.length d1, .slice P2 x.2.length d2] wq fun e w' => e = .returned (.bool true) ∧ ∃ m, w' = wq.drewN m := fun wq hq => by
        have := same_any P1 P2 x.2.length d1 x.2.length d2 x.2 x.2 wq _ _ (z1.below hq) (z2.below hq) (by omega) (by omega)
        rwa [decide_eq_true rfl] at this
      have M1 : Aside _ := m1
      have M2 : Aside _ := m2
      have KS : Aside _ := ks
      have HBW : Aside _ := hB
      obtain ⟨a1, a2⟩ := m1 wr hB
      obtain ⟨a3, a4⟩ := m2 wr hB
      obtain ⟨c1', c2'⟩ := m1 wr.drew hbd
      obtain ⟨c3', c4'⟩ := m2 wr.drew hbd
      generalize x.2.length = lx at *
      generalize x.1 = key at *
      clear hc1 hc2 x1 y1 z1 x2 y2 z2 hx m1 m2 ks hbd
      go_wp2_with fail
      have hkn : (k : Int) < n := by omega
      have hk0 : (0 : Int) ≤ (k : Int) := by omega
      have ktn : ((k : Int)).toNat = k := by omega
      have keq : (key != key) = false := bne_self_eq_false _
      go_region_held (fun wq => (wq.cell? ⟨b1, off1 + k * 2, none⟩ = some (.int .i64 key) ∧ wq.cell? ⟨b1, off1 + k * 2 + 1, none⟩ = some (.slice P1 lx d1)) ∧ (wq.cell? ⟨b2, off2 + k * 2, none⟩ = some (.int .i64 key) ∧ wq.cell? ⟨b2, off2 + k * 2 + 1, none⟩ = some (.slice P2 lx d2)))
        (first | assumption | exact ⟨⟨c1', c2'⟩, ⟨c3', c4'⟩⟩)
        ((go_at_call 32; refine (KS.out _ (HBW.out.trans ((below_drew wr).mono HBW.out.size))).mono ?_; rintro e w5 ⟨rfl, m5, hw5⟩; have b5 : Below wr.drew.heap.size wr.drew w5 := hw5 ▸ drewN_below _ _ m5; have q5 := And.intro (M1.out w5 ((HBW.out.trans ((below_drew wr).mono HBW.out.size)).trans (b5.mono HBW.out.size))) (M2.out w5 ((HBW.out.trans ((below_drew wr).mono HBW.out.size)).trans (b5.mono HBW.out.size)))))
      all_goals
        have hB5 : Aside (Below w.heap.size w w5) := (HBW.out.trans ((below_drew wr).mono HBW.out.size)).trans (b5.mono HBW.out.size)
        clear q5 b5 hw5 a1 a2 a3 a4 c1' c2' c3' c4'
        go_wp2
        go_roundw
        case rel => exact ⟨k + 1, by omega, by go_num, HBW.out.trans ((drewN_below wr _ _).mono HBW.out.size)⟩
        case measure => simp [intOf]; omega
    · go_wp2
      go_ret
      exact ⟨rfl, hB⟩
def K4 (J : JP) (A : Option Addr) : Prop := ∀ a, A = some a → a.block ≠ J.jb ∧ a.block ≠ J.g ∧ a.block ≠ J.bb ∧ a.block ≠ J.wb
def PrsK (w : World) (J : JP) (v : Value) (ps : List (Int × List UInt8)) : Prop :=
  ∃ base, (J.jb < base ∧ J.g < base ∧ J.bb < base ∧ J.wb < base) ∧ base ≤ w.heap.size ∧ MixPrs (K4 J) w base v ps
theorem PrsK.but4 {w w' : World} {J : JP} {v : Value} {ps : List (Int × List UInt8)} (h : PrsK w J v ps) (hb : But4 J w w') : PrsK w' J v ps := by
  obtain ⟨base, hl, hbs, vs, h1, h2, h3⟩ := h
  have hhi : ∀ k, base ≤ k → k < w.heap.size → w'.heap[k]? = w.heap[k]? := fun k a b => hb.block k b (by omega) (by omega) (by omega) (by omega)
  have hrow : ∀ {e : TypeId} {sz n : Nat} {u : Value} {xs : List Value}, w.ownsRow base e sz u n xs → w'.ownsRow base e sz u n xs := fun {e sz n u xs} ho =>
    row_kept ho fun g cs hg hc => hhi g (ho.lt g hg).1 (Array.getElem?_eq_some_iff.1 hc).1
  refine ⟨base, hl, Nat.le_trans hbs hb.size, vs, h1, hrow h2, fun i x u hx hu => ?_⟩
  rcases h3 i x u hx hu with ⟨A, c, e, hbs2, hk⟩ | ho
  · refine .inl ⟨A, c, e, ⟨hbs2.len, fun hn => ?_⟩, hk⟩
    obtain ⟨b, off, e2, hlt, hc⟩ := hbs2.place hn
    have hk4 := hk _ e2
    exact ⟨b, off, e2, hlt, fun j y hy => (World.cell?_of_block (w := w) (hb.block b (by omega) hk4.1 hk4.2.1 hk4.2.2.1 hk4.2.2.2)).trans (hc j y hy)⟩
  · exact .inr (hrow ho)
theorem PrsK.below {w w' : World} {J : JP} {v : Value} {ps : List (Int × List UInt8)} (h : PrsK w J v ps) (hb : Below w.heap.size w w') : PrsK w' J v ps := h.but4 (But4.of_below hb)
theorem PrsK.open_ {w : World} {J : JP} {v : Value} {ps : List (Int × List UInt8)} (h : PrsK w J v ps) : ∃ A c, v = .slice A ps.length c ∧ PrsP (K4 J) w w.heap.size A ps.length ps := by
  obtain ⟨base, hl, hbs, vs, h1, h2, h3⟩ := h
  rcases h2.2 with ⟨rfl, hn⟩ | ⟨g, cap, cur, rfl, hb, hg, _⟩
  · have hp : ps = [] := List.eq_nil_of_length_eq_zero hn
    subst hp
    exact ⟨none, 0, rfl, rfl, fun h => absurd h (by simp)⟩
  · refine ⟨some ⟨g, 0, none⟩, cap, rfl, rfl, fun hn => ⟨g, 0, rfl, (Array.getElem?_eq_some_iff.1 hg).1, fun i x hx => ?_⟩⟩
    have hil := (List.getElem?_eq_some_iff.1 hx).1
    obtain ⟨u, hu⟩ : ∃ u, vs[i]? = some u := ⟨_, List.getElem?_eq_getElem (by omega)⟩
    have hcells : ∀ (qs : List ((Int × List UInt8) × Value)) (i : Nat) (x : Int × List UInt8) (u : Value), qs[i]? = some (x, u) → (qs.flatMap fun x => [Value.int .i64 x.1.1, x.2])[2 * i]? = some (.int .i64 x.1) ∧ (qs.flatMap fun x => [Value.int .i64 x.1.1, x.2])[2 * i + 1]? = some u := by
      intro qs
      induction qs with
      | nil => intro i x u h; simp at h
      | cons q qs ih =>
        intro i x u h
        cases i with
        | zero =>
          obtain rfl := Option.some.inj h
          exact ⟨rfl, rfl⟩
        | succ i =>
          obtain ⟨a1, a2⟩ := ih i x u (by simpa using h)
          rw [List.flatMap_cons]
          exact ⟨by rw [show 2 * (i + 1) = 2 * i + 1 + 1 by omega]; exact a1, by rw [show 2 * (i + 1) + 1 = 2 * i + 1 + 1 + 1 by omega]; exact a2⟩
    obtain ⟨a1, a2⟩ := hcells (ps.zip vs) i x u (by rw [List.getElem?_zip_eq_some]; exact ⟨hx, hu⟩)
    have hL : ∃ A' c', u = .slice A' x.2.length c' ∧ Bs w w.heap.size A' x.2.length x.2 ∧ K4 J A' := by
      rcases h3 i x u hx hu with ⟨A, c, e, hb2, hk⟩ | ho
      · exact ⟨A, c, e, hb2.more hbs, hk⟩
      · obtain ⟨A', c', e, _, hb2⟩ := Bs.of_own ho
        refine ⟨A', c', e, hb2, fun a ha => ?_⟩
        have := (ho.lt a.block (by rw [e, ha]; rfl)).1
        omega
    obtain ⟨A', c', rfl, hb2, hk⟩ := hL
    refine ⟨A', c', ?_, ?_, hb2, hk⟩
    · rw [Nat.zero_add, h2.cellAt (2 * i) (by omega)]; exact a1
    · rw [Nat.zero_add, h2.cellAt (2 * i + 1) (by omega)]; exact a2
theorem PrsP.prs {K : Option Addr → Prop} {w : World} {B n : Nat} {A : Option Addr} {ps : List (Int × List UInt8)} (h : PrsP K w B A n ps) : Prs w B A n ps :=
  ⟨h.len, fun hn => by
    obtain ⟨b, off, e, hb, hc⟩ := h.place hn
    refine ⟨b, off, e, hb, fun i x hx => ?_⟩
    obtain ⟨A', c', h1, h2, h3, _⟩ := hc i x hx
    exact ⟨A', c', h1, h2, h3⟩⟩
theorem PrsK.of_mix {w w' : World} {J : JP} {v : Value} {ps : List (Int × List UInt8)} {base : Nat} (h : MixPrs (K4 J) w' base v ps) (hl : J.jb < base ∧ J.g < base ∧ J.bb < base ∧ J.wb < base) (hb : base ≤ w'.heap.size) : PrsK w' J v ps := ⟨base, hl, hb, h⟩
/-- Opened again with its power. -/
theorem make_held {W : World} {Q : PQ} {F : Fl} {e : Ending} {w' : World} {sz c en k : Nat} {ep : Int} {V : Int → Option (List UInt8)} (hq : PQAt W Q F) (hon : On F) (hsz : min (Q.si 0) (Q.si 1) = sz) (h32 : 32 ≤ sz) (hdis : Q.be 0 + Q.si 0 ≤ Q.be 1 ∨ Q.be 1 + Q.si 1 ≤ Q.be 0)
    (hh : Held F (Q.at_ k) sz c ep V en) (hep : ep < 4294967295) (hp : MakePost W Q F e w') :
    e = .returned (.tuple #[.pointer (some ⟨W.heap.size, 0, none⟩), .int .i64 0]) ∧ But3 W.heap.size Q.g Q.bb Q.wb W w' ∧ Opened w' (Q.at_ W.heap.size) sz V (ep + 1) := by
  have hd : ¬ F.down = true := by rw [hon.2]; decide
  have hse := sel_ep hh.sel
  have hs0 : sz ≤ Q.si 0 := by omega
  have hs1 : sz ≤ Q.si 1 := by omega
  unfold MakePost at hp
  rw [if_neg hd, hsz, if_neg (by omega)] at hp
  obtain ⟨w1, ec, hj, hb, ho, he⟩ := hp
  unfold OpenPost at ho
  have h1 : selOf F (Q.at_ W.heap.size) (S0 sz) 2 = some (c, ep) := hh.sel
  have h2 : takeOf (grp F (Q.at_ W.heap.size) (S0 sz) c) = (V, en, 0) := hh.take
  rw [h1] at ho
  simp only [h2] at ho
  rw [if_neg (by decide)] at ho
  obtain ⟨mb, D, wr, hjr, hor, ho⟩ := ho
  have hbr : Below W.heap.size W wr := hb.trans (hor.toBelow hb.size (Nat.le_refl _))
  have hsv : sizeAll V ≤ sz := by
    have h3 := take_size (grp F (Q.at_ W.heap.size) (S0 sz) c)
    rw [h2] at h3
    have h4 : en ≤ sz := hjr.en
    have h3' : sizeAll V ≤ en := h3
    omega
  by_cases h3 : endOf (piece F ((Q.at_ W.heap.size).be c + en) ((S0 sz).size - en)) ((S0 sz).size - en) = 0
  · rw [if_pos h3] at ho
    obtain ⟨ho, rfl⟩ := ho
    have hec : ec = 0 := by injection ho with x; injection x
    subst hec
    rw [if_pos rfl] at he
    exact ⟨he, But3.below hbr, F, _, hjr, ⟨hon.2, hq.sane⟩, rfl, ⟨h1, h2, h3⟩, rfl, by show ep ≤ ep + 1; omega⟩
  · rw [if_neg h3] at ho
    rcases ho with ⟨hx, _⟩ | ⟨_, hl⟩
    · omega
    · have hbd : Below wr.heap.size wr wr.drew := below_drew wr
      have hjd := hjr.below hbd
      have hep0 : 0 ≤ ep ∧ ep < 4294967296 := hjr.ep
      have hc2 := hse.1
      obtain ⟨he2, G, hG, hL⟩ := lay_ok hjd hjd.vals hon (show sizeAll V ≤ sz from hsv) (by omega) (by omega) (by omega) hl
      have hec : ec = 0 := by injection he2 with x; injection x
      subst hec
      rw [if_pos rfl] at he
      have hcc : 1 - (1 - c) = c := by omega
      have hl3 : But3 W.heap.size Q.g Q.bb Q.wb W w' := by
        have hf4 := hl.but4 (J := Q.at_ W.heap.size)
        refine ⟨hf4.os.trans hbr.os, hf4.tape.trans hbr.tape, hf4.output.trans hbr.output, Nat.le_trans hbr.size hf4.size, fun i hi a b d => (hf4.block i (Nat.lt_of_lt_of_le hi hbr.size) (by show i ≠ W.heap.size; omega) a b d).trans (hbr.block i hi)⟩
      refine ⟨he, hl3, G, _, hG, ⟨hL.on.2, hL.on.sane⟩, rfl, ?_, rfl, Int.le_refl _⟩
      have hsi : sz ≤ (Q.at_ W.heap.size).si (1 - c) := hjr.size (1 - c) (by omega)
      refine laid_settled (s := ⟨sz, 1 - c, ep + 1, sizeAll V, some mb, D, V⟩) (J := Q.at_ W.heap.size) (gi := 1 - c) (by omega) hL hsi hG.vals (by show sizeAll V ≤ sz; exact hsv) (by omega) (by omega) hdis hs0 hs1 (.inr ?_) rfl rfl rfl rfl
      rw [hcc]
      have he3 : epOf (grp F (Q.at_ W.heap.size) (S0 sz) c) = ep := hse.2
      rw [he3]; omega
/-- Behind the steps: the parts stand, and what counts in the flash is V. -/
def EndAt (wz : World) (Q : PQ) (n sz : Nat) (V : Int → Option (List UInt8)) : Prop :=
  ∃ W0 F0 G c ep en, PQAt W0 Q F0 ∧ But3 W0.heap.size Q.g Q.bb Q.wb W0 wz ∧ FlashAt wz Q.g Q.bb Q.wb G ∧ G.sec = F0.sec ∧ G.wear.length = F0.wear.length ∧ Held G (Q.at_ n) sz c ep V en ∧ ep ≤ 100
theorem EndAt.below {w w' : World} {Q : PQ} {n sz : Nat} {V : Int → Option (List UInt8)} (h : EndAt w Q n sz V) (hb : Below w.heap.size w w') : EndAt w' Q n sz V := by
  obtain ⟨W0, F0, G, c, ep, en, h1, h2, h3, h4⟩ := h
  exact ⟨W0, F0, G, c, ep, en, h1, h2.trans (But3.below hb) h2.size, h3.below hb, h4⟩
theorem Good.end_ {W : World} {Q : PQ} {n sz : Nat} {F : Fl} {s : JS} (h : Good W (Q.at_ n) F s sz) (he : s.ep ≤ 100) : EndAt W Q n sz s.V :=
  ⟨W, F, F, s.cnt, s.ep, s.en, PQAt.of_jat h.j, But3.refl _ _ _ _ _, h.j.fl, rfl, rfl, h.set.held, he⟩
theorem Cutd.end_ {W w' : World} {Q : PQ} {n sz : Nat} {F : Fl} {s : JS} (h : Good W (Q.at_ n) F s sz) (hc : Cutd W w' (Q.at_ n) F s sz) (he : s.ep ≤ 100) : EndAt w' Q n sz s.V := by
  obtain ⟨G, a, b, c, d, e⟩ := hc
  exact ⟨W, F, G, s.cnt, s.ep, s.en, PQAt.of_jat h.j, b, a, c, d, e, he⟩
theorem EndAt.restored {w w' : World} {Q : PQ} {n sz : Nat} {V : Int → Option (List UInt8)} {G : Fl} (hf : FlashAt w' Q.g Q.bb Q.wb (onF G)) (ho : Only w.heap.size Q.g w w') {W0 : World} {F0 : Fl} (h1 : PQAt W0 Q F0) (h2 : But3 W0.heap.size Q.g Q.bb Q.wb W0 w) (h4 : G.sec = F0.sec) (h5 : G.wear.length = F0.wear.length) : PQAt w' Q (onF G) :=
  h1.turned (h2.trans (But3.only1 ho) h2.size) hf h4 h5 (onF_on G).sane
theorem i64_wfk {n : Int} (h : I64 n) : (Lit.int .i64 n).wf = true := by
  have h' : -9223372036854775808 ≤ n ∧ n ≤ 9223372036854775807 := h
  simp [Lit.wf, IntKind.min, IntKind.max, IntKind.signed, IntKind.bits]
  exact h'
/-- A step's copy. -/
structure OpK (W : World) (n : Nat) (o : Opj) : Prop where
  c0 : W.cell? ⟨n, 0, none⟩ = some (.int .i64 o.k)
  c1 : W.cell? ⟨n, 1, none⟩ = some (.int .i64 o.a)
  c2 : W.cell? ⟨n, 2, none⟩ = some (.slice o.A o.n o.c)
  lt : n < W.heap.size
theorem OpK.new_ (W : World) (t : TypeId) (o : Opj) : OpK (W.alloc (.cells #[.int .i64 o.k, .int .i64 o.a, .slice o.A o.n o.c] t)) W.heap.size o := by
  have hc : ∀ j, (W.alloc (.cells #[.int .i64 o.k, .int .i64 o.a, .slice o.A o.n o.c] t)).cell? ⟨W.heap.size, j, none⟩ = (#[Value.int .i64 o.k, .int .i64 o.a, .slice o.A o.n o.c] : Array Value)[j]? := fun j => cell_of_row _ _ _ _ _ _ (heap_alloc_new W _)
  exact ⟨hc 0, hc 1, hc 2, by rw [alloc_size]; omega⟩
theorem OpK.at_ {W w' : World} {n : Nat} {o : Opj} (h : OpK W n o) (hk : ∀ p : Addr, p.block = n → w'.cell? p = W.cell? p) (hs : W.heap.size ≤ w'.heap.size) : OpK w' n o :=
  ⟨(hk _ rfl).trans h.c0, (hk _ rfl).trans h.c1, (hk _ rfl).trans h.c2, Nat.lt_of_lt_of_le h.lt hs⟩
theorem OpK.below {W w' : World} {n : Nat} {o : Opj} (h : OpK W n o) (hb : Below W.heap.size W w') : OpK w' n o := h.at_ (fun p hp => hb.cell (by rw [hp]; exact h.lt)) hb.size
/-- What of a round stays, whatever the journal does. -/
structure RAt (w W : World) (J : JP) (N : Nat) (o : Opj) : Prop where
  op : OpK W N o
  bel : Below w.heap.size w W
  bs : Bs W w.heap.size o.A o.n o.l
  low : w.heap.size ≤ J.jb ∧ w.heap.size ≤ J.g ∧ w.heap.size ≤ J.bb ∧ w.heap.size ≤ J.wb
  off : N ≠ J.jb ∧ N ≠ J.g ∧ N ≠ J.bb ∧ N ≠ J.wb
theorem RAt.but4 {w W W' : World} {J : JP} {N : Nat} {o : Opj} (h : RAt w W J N o) (hb : But4 J W W') : RAt w W' J N o :=
  have hx : Below w.heap.size W W' := hb.below h.bel.size h.low.1 h.low.2.1 h.low.2.2.1 h.low.2.2.2
  ⟨h.op.at_ (fun p hp => hb.cell (by rw [hp]; exact h.op.lt) (by rw [hp]; exact h.off.1) (by rw [hp]; exact h.off.2.1) (by rw [hp]; exact h.off.2.2.1) (by rw [hp]; exact h.off.2.2.2)) hb.size, h.bel.trans hx, h.bs.below hx, h.low, h.off⟩
theorem RAt.below {w W W' : World} {J : JP} {N : Nat} {o : Opj} (h : RAt w W J N o) (hb : Below W.heap.size W W') : RAt w W' J N o := h.but4 (But4.of_below hb)
theorem PrsK.at_ {w : World} {J : JP} {A : Option Addr} {n c : Nat} {ps : List (Int × List UInt8)} (h : PrsK w J (.slice A n c) ps) (hn : ps.length = n) : PrsP (K4 J) w w.heap.size A n ps := by
  obtain ⟨A', c', hv, hp⟩ := h.open_
  injection hv with e1 e2 e3
  subst e1 e2
  exact hp
theorem prsOf_len (V : Int → Option (List UInt8)) : (prsOf V).length ≤ 32 := by unfold prsOf; rw [List.length_map]; exact keysOf_length _
theorem prsOf_short {V : Int → Option (List UInt8)} (h : ∀ k l, V k = some l → l.length ≤ 250) : ∀ x, x ∈ prsOf V → x.2.length ≤ 250 := fun x hx => by
  unfold prsOf at hx
  obtain ⟨kx, hkx, rfl⟩ := List.mem_map.1 hx
  cases hv : V kx with
  | none => show ((none : Option (List UInt8)).getD []).length ≤ 250; decide
  | some l1 => exact h _ _ hv
theorem Good.lts {W : World} {J : JP} {F : Fl} {s : JS} {sz : Nat} (h : Good W J F s sz) : J.jb < W.heap.size ∧ J.g < W.heap.size ∧ J.bb < W.heap.size ∧ J.wb < W.heap.size := by
  have a := h.j.fl.lt
  exact ⟨World.block_lt_of_cell? _ _ h.j.c2, a.1, a.2.1, a.2.2⟩
theorem But4.lts {W W' : World} {J : JP} (hb : But4 J W W') (h : J.jb < W.heap.size ∧ J.g < W.heap.size ∧ J.bb < W.heap.size ∧ J.wb < W.heap.size) : J.jb < W'.heap.size ∧ J.g < W'.heap.size ∧ J.bb < W'.heap.size ∧ J.wb < W'.heap.size := by
  have := hb.size
  omega
theorem Prs.up {w w' : World} {B n : Nat} {A : Option Addr} {ps : List (Int × List UInt8)} (h : Prs w B A n ps) (hb : Below B w w') (hB : B ≤ w'.heap.size) : Prs w' w'.heap.size A n ps := by
  obtain ⟨l9, p9⟩ := h.below hb
  refine ⟨l9, fun h => ?_⟩
  obtain ⟨b, off, e, hb, hc⟩ := p9 h
  refine ⟨b, off, e, Nat.lt_of_lt_of_le hb hB, fun i x hx => ?_⟩
  obtain ⟨A', c', x1, x2, x3⟩ := hc i x hx
  exact ⟨A', c', x1, x2, x3.more hB⟩
/-- What is left of a step. -/
def StepAt (w wz : World) (Q : PQ) (n sz N : Nat) (o : Opj) (k np c2 : Nat) (A2 : Option Addr) (s15 : Value) (ec : Int) : Prop :=
  RAt w wz (Q.at_ n) N o ∧ ((ec ≠ 30 ∧ ∃ F s, Good wz (Q.at_ n) F s sz ∧ PrsK wz (Q.at_ n) s15 (prsOf s.V) ∧ s.ep ≤ (k : Int) + 2) ∨ (ec = 30 ∧ ∃ V, EndAt wz Q n sz V ∧ PrsK wz (Q.at_ n) (.slice A2 np c2) (prsOf V)))
set_option maxHeartbeats 40000000 in
theorem keeps_law (sz : Int) (A : Option Addr) (m c : Nat) (os : List Opj) (cu ag : Int) (w : World) (hO : Opjs w w.heap.size A m os) (hm : m ≤ maxLen) :
    Calls Try.prog 3 #[.int .i64 sz, .slice A m c, .int .i64 cu, .int .i64 ag] w fun e w' => e = .returned (.bool true) ∧ Below w.heap.size w w' := by
  go_enter Try.func3, Try.ntmps3
  go_wp2_with fail
  refine (alive5 w).mono ?_
  rintro e w1 ⟨rfl, b1⟩
  have O1 := hO.below b1 (Nat.le_refl _)
  have H1 : Aside _ := And.intro b1 O1
  clear hO b1 O1
  by_cases hs : (128 : Int) < sz
  · go_wp2
    go_ret
    exact ⟨rfl, H1.out.1⟩
  go_wp2_with fail
  have ks := small5 A m c os w1 ⟨H1.out.2.len, fun h => by
    obtain ⟨b, off, e, hb, hc⟩ := H1.out.2.place h
    exact ⟨b, off, e, Nat.lt_of_lt_of_le hb H1.out.1.size, fun i s hs => by
      have := hc i s hs
      exact ⟨this.c0, this.c1, this.c2, this.bs.more H1.out.1.size, this.cap, this.max, this.ik, this.ia⟩⟩⟩ hm
  refine ks.mono ?_
  rintro e w2 ⟨b, rfl, b2, hb⟩
  have B2 : Aside (Below w.heap.size w w2) := H1.out.1.trans (b2.mono H1.out.1.size)
  cases b with
  | false =>
    clear ks b2 hb
    go_wp2
    go_ret
    exact ⟨rfl, B2.out⟩
  | true =>
    have HB : Aside _ := hb rfl
    obtain ⟨mm, hmm⟩ : ∃ mm : Nat, min (max sz 16) 4096 = (mm : Int) := ⟨(min (max sz 16) 4096).toNat, by omega⟩
    have hm1 : 16 ≤ mm ∧ mm ≤ 128 := by omega
    have kg := groups_f w2 sz mm hmm
    clear ks b2 hb hmm
    go_wp2_with fail
    refine kg.mono ?_
    rintro e w3 ⟨g, bb, wb, pa, pb, rfl, hq, b3, hg, hbb, hwb, hpa, hpb⟩
    have ko := jopen_f w3 (QG g bb wb pa pb mm) (fresh 4 mm) hq (by show ((min (2 * mm) (2 * mm) : Nat) : Int) ≤ 65536; omega)
    have H3 : Aside _ := And.intro hq (And.intro b3 (And.intro hg (And.intro hbb (And.intro hwb (And.intro hpa hpb)))))
    clear kg hq b3 hg hbb hwb hpa hpb
    go_wp2_with fail
    refine ko.mono ?_
    intro e w4 hp
    obtain ⟨rfl, G, hgd, hon, hbel⟩ := open_good hm1.1 (by omega) H3.out.1 hp
    obtain ⟨jb, hjb⟩ : ∃ jb, w3.heap.size = jb := ⟨_, rfl⟩
    rw [hjb] at hgd ⊢
    have hb4 : Below w.heap.size w w4 := B2.out.trans ((H3.out.2.1.trans (hbel w2.heap.size H3.out.2.1.size H3.out.2.2.1 H3.out.2.2.2.1 H3.out.2.2.2.2.1)).mono B2.out.size)
    have HL : Aside (w.heap.size ≤ g ∧ w.heap.size ≤ bb ∧ w.heap.size ≤ wb ∧ w.heap.size ≤ jb) := by
      have x1 := H3.out.2
      have x2 := B2.out.size
      have x3 := x1.1.size
      exact ⟨by omega, by omega, by omega, by omega⟩
    have H4 : Aside _ := And.intro hgd (And.intro hon hb4)
    have e95 := and4095 cu
    obtain ⟨cn, hcn⟩ : ∃ cn, bits .and .i64 cu 4095 = cn := ⟨_, rfl⟩
    rw [hcn] at e95
    have hcn2 : 0 ≤ cn ∧ cn ≤ 4095 := by omega
    have kc := cut_f w4 g bb wb G cn hgd.j.fl (by omega) (by omega)
    clear e95 ko hp hgd hon hbel hb4 hjb
    go_wp2_with fail
    refine kc.mono ?_
    rintro e w5 ⟨rfl, hf5, o5⟩
    have hj5 := H4.out.1.j.flash (But3.only1 o5) hf5 (cut_sane G cn (by omega) H4.out.2.1.2).2 ⟨rfl, rfl⟩
    have hg5 : Good w5 ((QG g bb wb pa pb mm).at_ jb) { G with cut := decide (0 ≤ cn), rest := cn } (SF mm) (2 * mm) := ⟨hj5, cut_sane G cn (by omega) H4.out.2.1.2, H4.out.1.tail, H4.out.1.size, H4.out.1.set.dat rfl⟩
    have B5 : Aside (Below w.heap.size w w5) := H4.out.2.2.trans (o5.toBelow H4.out.2.2.size HL.out.1)
    have H5 : Aside _ := hg5
    clear kc hcn hf5 o5 hj5 hg5 hcn2
    have hlen := Lib.hid H1.out.2.len
    have hmi : (m : Int) ≤ 40 := by have := HB.out.1; omega
    have HGEO : Aside (Geo ((QG g bb wb pa pb mm).at_ jb) (2 * mm)) := ⟨.inl (by show 2 * mm * 0 + 2 * mm ≤ 2 * mm * 1; omega), Nat.le_refl _, Nat.le_refl _, by omega⟩
    go_upto_block 0 with fail
    have HP : Aside (PrsK ((w5.alloc (.cells #[] 69)).alloc (.cells #[] 69)) ((QG g bb wb pa pb mm).at_ jb) (.slice (some ⟨w5.heap.size, 0, none⟩) 0 0) (prsOf (SF mm).V)) := by
      have x1 := H5.out.j.fl.lt
      have x2 := World.block_lt_of_cell? _ _ H5.out.j.c2
      have x3 : prsOf (SF mm).V = [] := by show prsOf noV = []; decide +kernel
      rw [x3]
      exact (PrsK.of_mix (w := w5) (mix_nil w5) ⟨x2, x1.1, x1.2.1, x1.2.2⟩ (by rw [alloc_size]; omega)).below (alloc_below _ _)
    have HW : Aside (Below w5.heap.size w5 ((w5.alloc (.cells #[] 69)).alloc (.cells #[] 69))) := (alloc_below _ _).trans ((alloc_below _ _).mono (by rw [alloc_size]; omega))
    go_cut [14, 15, 17, 18] from 53 to 107 (fun s14 s15 s17 s18 wz => ∃ V, Below w.heap.size w wz ∧ EndAt wz (QG g bb wb pa pb mm) jb (2 * mm) V ∧ PrsK wz ((QG g bb wb pa pb mm).at_ jb) s14 (prsOf V))
    case first =>
      go_wp2_with fail
      go_loopw [14, 15, 55] (fun v vn i wr => ∃ k : Nat, k ≤ m ∧ i = .int .i64 k ∧ ∃ F s, Good wr ((QG g bb wb pa pb mm).at_ jb) F s (2 * mm) ∧ PrsK wr ((QG g bb wb pa pb mm).at_ jb) v (prsOf s.V) ∧ s.ep ≤ (k : Int) + 1 ∧ Below w.heap.size w wr) (fun _ _ i _ => m - (intOf i).toNat)
      case atStart => exact ⟨0, by omega, rfl, _, SF mm, H5.out.below HW.out, HP.out, (show (1 : Int) ≤ 0 + 1 by decide), B5.out.trans (HW.out.mono B5.out.size)⟩
      case round =>
        obtain ⟨k, hk, rfl, F, s, hgd, hpr, hep, hB⟩ := hrel
        by_cases hlt : k < m
        · obtain ⟨b, off, rfl, hb, hc⟩ := H1.out.2.place (by omega)
          obtain ⟨o, ho⟩ := opj_get (os := os) (k := k) (by rw [hlen.out]; omega)
          have hop := (hc k o ho).keep hb (fun p hp => by
            have hb1 := H1.out.1
            exact (hB.cell hp).trans (hb1.cell hp).symm)
          have hn300 := HB.out.2 k o ho
          have hr := hop.range
          obtain ⟨A2, c2, rfl, _⟩ := hpr.open_
          obtain ⟨np, hnp⟩ : ∃ np, (prsOf s.V).length = np := ⟨_, rfl⟩
          have hnp32 : np ≤ 32 := by rw [← hnp]; exact prsOf_len _
          rw [hnp] at hpr ⊢
          have hbw : Bs wr w.heap.size o.A o.n o.l := hop.bs
          have hia := hop.ia
          have HR := Lib.hid (And.intro hgd (And.intro hpr (And.intro hnp (And.intro hB hbw))))
          have hlo : w.heap.size ≤ jb ∧ w.heap.size ≤ g ∧ w.heap.size ≤ bb ∧ w.heap.size ≤ wb := ⟨HL.out.2.2.2, HL.out.1, HL.out.2.1, HL.out.2.2.1⟩
          clear hc ho hgd hpr hnp hB hop hbw HP HW
          go_upto_block 2 with (refine wpList_load_mid rfl 37 (.tmp 57) rfl b (off + k * 3) rfl [.int .i64 o.k, .int .i64 o.a, .slice o.A o.n o.c] _ hr Try.underlying37 rfl size_opj ?_)
          refine wp_at_world (F := fun W => Below wr.heap.size wr W ∧ OpK W wr.heap.size o) ⟨alloc_below wr _, OpK.new_ wr _ o⟩ fun w5 ⟨b5, p5⟩ => ?_
          have hlt4 := HR.out.1.lts
          have hra : RAt w w5 ((QG g bb wb pa pb mm).at_ jb) wr.heap.size o := ⟨p5, HR.out.2.2.2.1.trans (b5.mono HR.out.2.2.2.1.size), HR.out.2.2.2.2.below (b5.mono HR.out.2.2.2.1.size), hlo, ⟨Ne.symm (Nat.ne_of_lt hlt4.1), Ne.symm (Nat.ne_of_lt hlt4.2.1), Ne.symm (Nat.ne_of_lt hlt4.2.2.1), Ne.symm (Nat.ne_of_lt hlt4.2.2.2)⟩⟩
          have hg5 := HR.out.1.below b5
          have hp5 := HR.out.2.1.below b5
          have HNP := Lib.hid HR.out.2.2.1
          obtain ⟨N, hN⟩ : ∃ N, wr.heap.size = N := ⟨_, rfl⟩
          rw [hN] at hra p5 ⊢
          have e0 := p5.c0
          have e1 := p5.c1
          have e2 := p5.c2
          have HS := Lib.hid (And.intro hra (And.intro hg5 hp5))
          clear hra hg5 hp5 p5 b5 hlt4 hr HR hN hlo
          go_cut [15, 18] from 58 to 98 (fun s15 s18 wz => ∃ ec : Int, s18 = .int .i64 ec ∧ Aside (StepAt w wz (QG g bb wb pa pb mm) jb (2 * mm) N o k np c2 A2 s15 ec))
          case first =>
            by_cases hk0 : o.k = 0
            · rw [hk0] at e0
              have kp : Calls Try.prog 9 #[.pointer (some ⟨jb, 0, none⟩), .int .i64 o.a, .slice o.A o.n o.c] w5 (PutPost w5 ((QG g bb wb pa pb mm).at_ jb) F s o.a o.l) := put_f w5 ((QG g bb wb pa pb mm).at_ jb) F s HS.out.2.1.j o.a hia.1 hia.2 o.A o.n o.c o.l (HS.out.1.bs.more HS.out.1.bel.size)
              go_wp2_with fail
              refine kp.mono ?_
              intro e w6 hp
              clear kp
              have hb4 := hp.but4
              obtain ⟨_, hpu⟩ := put_up HGEO.out HS.out.2.1 hp
              have hra6 := HS.out.1.but4 hb4
              have hp6 := HS.out.2.2.but4 hb4
              have hlt6 := hb4.lts HS.out.2.1.lts
              have q1 := hra6.op.c1
              have q2 := hra6.op.c2
              have hbs6 := hra6.bs.more hra6.bel.size
              have kw := with_f w6 A2 np c2 o.a o.A o.n o.c o.l _ (hp6.at_ HNP.out) (by omega) hbs6 hn300
              have H6 := Lib.hid (And.intro hra6 (And.intro hp6 hlt6))
              clear hp hb4 hra6 hp6 hlt6 hbs6 e0 e1 e2
              rcases hpu with ⟨ec, rfl, hec, hec2, hbe⟩ | ⟨hkr, hl250, rfl, hgo⟩ | ⟨hkr, hl250, rfl, hcu⟩
              · have d1 : (ec == 0) = false := beq_eq_false_iff_ne.2 hec
                have d2 : (ec == 30) = false := beq_eq_false_iff_ne.2 hec2
                have HE := Lib.hid (And.intro hbe hec2)
                clear hbe hec hec2 kw q1 q2
                go_wp2_with fail
                go_meet
                case rel => exact ⟨ec, rfl, (show Aside _ from ⟨H6.out.1, .inl ⟨HE.out.2, F, s, HS.out.2.1.below HE.out.1, H6.out.2.1, by omega⟩⟩)⟩
              · have HG := Lib.hid (And.intro hkr hgo)
                clear hkr hl250 hgo
                go_wp2_with fail
                refine kw.mono ?_
                rintro e w7 ⟨v7, rfl, hm7, b7⟩
                have H7 := Lib.hid (And.intro hm7 b7)
                clear kw hm7 b7 q1 q2
                go_wp2_with fail
                go_meet
                case rel =>
                  obtain ⟨hkr, G, s', x1, x2, x3⟩ := HG.out
                  exact ⟨0, rfl, (show Aside _ from ⟨H6.out.1.below H7.out.2, .inl ⟨by decide, G, s', x1.below H7.out.2, by
                    rw [x2, prs_put _ _ _ hkr.1 hkr.2]
                    exact PrsK.of_mix (w := w6) H7.out.1 H6.out.2.2 H7.out.2.size, by omega⟩⟩)⟩
              · have HG := Lib.hid hcu
                clear hkr hl250 hcu
                go_wp2_with fail
                refine kw.mono ?_
                rintro e w7 ⟨v7, rfl, hm7, b7⟩
                have H7 := Lib.hid b7
                clear kw hm7 b7 q1 q2
                go_wp2_with fail
                go_meet
                case rel => exact ⟨30, rfl, (show Aside _ from ⟨H6.out.1.below H7.out, .inr ⟨rfl, s.V, (Cutd.end_ HS.out.2.1 HG.out (by omega)).below H7.out, H6.out.2.1.below H7.out⟩⟩)⟩
            · by_cases hk1 : o.k = 1
              · rw [hk1] at e0
                have kp : Calls Try.prog 9 #[.pointer (some ⟨jb, 0, none⟩), .int .i64 o.a, .slice o.A o.n o.c] w5 (PutPost w5 ((QG g bb wb pa pb mm).at_ jb) F s o.a o.l) := put_f w5 ((QG g bb wb pa pb mm).at_ jb) F s HS.out.2.1.j o.a hia.1 hia.2 o.A o.n o.c o.l (HS.out.1.bs.more HS.out.1.bel.size)
                go_wp2_with fail
                refine kp.mono ?_
                intro e w6 hp
                clear kp
                have hb4 := hp.but4
                obtain ⟨_, hpu⟩ := put_up HGEO.out HS.out.2.1 hp
                have hra6 := HS.out.1.but4 hb4
                have hp6 := HS.out.2.2.but4 hb4
                have hlt6 := hb4.lts HS.out.2.1.lts
                have q1 := hra6.op.c1
                have q2 := hra6.op.c2
                have hbs6 := hra6.bs.more hra6.bel.size
                have kw := with_f w6 A2 np c2 o.a o.A o.n o.c o.l _ (hp6.at_ HNP.out) (by omega) hbs6 hn300
                have H6 := Lib.hid (And.intro hra6 (And.intro hp6 hlt6))
                clear hp hb4 hra6 hp6 hlt6 hbs6 e0 e1 e2
                rcases hpu with ⟨ec, rfl, hec, hec2, hbe⟩ | ⟨hkr, hl250, rfl, hgo⟩ | ⟨hkr, hl250, rfl, hcu⟩
                · have d1 : (ec == 0) = false := beq_eq_false_iff_ne.2 hec
                  have d2 : (ec == 30) = false := beq_eq_false_iff_ne.2 hec2
                  have HE := Lib.hid (And.intro hbe hec2)
                  clear hbe hec hec2 kw q1 q2
                  go_wp2_with fail
                  go_meet
                  case rel => exact ⟨ec, rfl, (show Aside _ from ⟨H6.out.1, .inl ⟨HE.out.2, F, s, HS.out.2.1.below HE.out.1, H6.out.2.1, by omega⟩⟩)⟩
                · have HG := Lib.hid (And.intro hkr hgo)
                  clear hkr hl250 hgo
                  go_wp2_with fail
                  refine kw.mono ?_
                  rintro e w7 ⟨v7, rfl, hm7, b7⟩
                  have H7 := Lib.hid (And.intro hm7 b7)
                  clear kw hm7 b7 q1 q2
                  go_wp2_with fail
                  go_meet
                  case rel =>
                    obtain ⟨hkr, G, s', x1, x2, x3⟩ := HG.out
                    exact ⟨0, rfl, (show Aside _ from ⟨H6.out.1.below H7.out.2, .inl ⟨by decide, G, s', x1.below H7.out.2, by
                      rw [x2, prs_put _ _ _ hkr.1 hkr.2]
                      exact PrsK.of_mix (w := w6) H7.out.1 H6.out.2.2 H7.out.2.size, by omega⟩⟩)⟩
                · have HG := Lib.hid hcu
                  clear hkr hl250 hcu
                  go_wp2_with fail
                  refine kw.mono ?_
                  rintro e w7 ⟨v7, rfl, hm7, b7⟩
                  have H7 := Lib.hid b7
                  clear kw hm7 b7 q1 q2
                  go_wp2_with fail
                  go_meet
                  case rel => exact ⟨30, rfl, (show Aside _ from ⟨H6.out.1.below H7.out, .inr ⟨rfl, s.V, (Cutd.end_ HS.out.2.1 HG.out (by omega)).below H7.out, H6.out.2.1.below H7.out⟩⟩)⟩
              · by_cases hk2 : o.k = 2
                · rw [hk2] at e0
                  have kp : Calls Try.prog 11 #[.pointer (some ⟨jb, 0, none⟩), .int .i64 o.a] w5 (DropPost w5 ((QG g bb wb pa pb mm).at_ jb) F s o.a) := drop_f w5 ((QG g bb wb pa pb mm).at_ jb) F s HS.out.2.1.j o.a hia.1 hia.2
                  go_wp2_with fail
                  refine kp.mono ?_
                  intro e w6 hp
                  clear kp
                  have hb4 := hp.but4
                  obtain ⟨_, hpu⟩ := drop_up HGEO.out HS.out.2.1 hp
                  have hra6 := HS.out.1.but4 hb4
                  have hp6 := HS.out.2.2.but4 hb4
                  have hlt6 := hb4.lts HS.out.2.1.lts
                  have q1 := hra6.op.c1
                  have kw := without_f w6 A2 np c2 o.a _ (hp6.at_ HNP.out) (by omega)
                  have H6 := Lib.hid (And.intro hra6 (And.intro hp6 hlt6))
                  clear hp hb4 hra6 hp6 hlt6 e0 e1 e2
                  rcases hpu with ⟨ec, rfl, hec, hec2, hbe⟩ | ⟨hkr, rfl, hgo⟩ | ⟨hkr, rfl, hcu⟩
                  · have d1 : (ec == 0) = false := beq_eq_false_iff_ne.2 hec
                    have d2 : (ec == 30) = false := beq_eq_false_iff_ne.2 hec2
                    have HE := Lib.hid (And.intro hbe hec2)
                    clear hbe hec hec2 kw q1
                    go_wp2_with fail
                    go_meet
                    case rel => exact ⟨ec, rfl, (show Aside _ from ⟨H6.out.1, .inl ⟨HE.out.2, F, s, HS.out.2.1.below HE.out.1, H6.out.2.1, by omega⟩⟩)⟩
                  · have HG := Lib.hid (And.intro hkr hgo)
                    clear hkr hgo
                    go_wp2_with fail
                    refine kw.mono ?_
                    rintro e w7 ⟨v7, rfl, hm7, b7⟩
                    have H7 := Lib.hid (And.intro hm7 b7)
                    clear kw hm7 b7 q1
                    go_wp2_with fail
                    go_meet
                    case rel =>
                      obtain ⟨hkr, G, s', x1, x2, x3⟩ := HG.out
                      exact ⟨0, rfl, (show Aside _ from ⟨H6.out.1.below H7.out.2, .inl ⟨by decide, G, s', x1.below H7.out.2, by
                        rw [x2, prs_drop]
                        exact PrsK.of_mix (w := w6) H7.out.1 H6.out.2.2 H7.out.2.size, by omega⟩⟩)⟩
                  · have HG := Lib.hid hcu
                    clear hkr hcu
                    go_wp2_with fail
                    refine kw.mono ?_
                    rintro e w7 ⟨v7, rfl, hm7, b7⟩
                    have H7 := Lib.hid b7
                    clear kw hm7 b7 q1
                    go_wp2_with fail
                    go_meet
                    case rel => exact ⟨30, rfl, (show Aside _ from ⟨H6.out.1.below H7.out, .inr ⟨rfl, s.V, (Cutd.end_ HS.out.2.1 HG.out (by omega)).below H7.out, H6.out.2.1.below H7.out⟩⟩)⟩
                · go_wp2_with fail
                  go_meet
                  case rel => exact ⟨0, rfl, (show Aside _ from ⟨HS.out.1, .inl ⟨by decide, F, s, HS.out.2.1, HS.out.2.2, by omega⟩⟩)⟩
          case rest =>
            obtain ⟨ec, rfl, hst⟩ := hcut
            clear HS e0 e1 e2
            by_cases h30 : ec = 30
            · subst h30
              have HX : Aside (∃ V, Below w.heap.size w wc ∧ EndAt wc (QG g bb wb pa pb mm) jb (2 * mm) V ∧ PrsK wc ((QG g bb wb pa pb mm).at_ jb) (.slice A2 np c2) (prsOf V)) := by
                obtain ⟨hra, hx⟩ := hst.out
                rcases hx with ⟨hx, _⟩ | ⟨_, V, h1, h2⟩
                · exact absurd rfl hx
                · exact ⟨V, hra.bel, h1, h2⟩
              clear hst
              go_wp2_with fail
              go_meet
              case rel => exact HX.out
            · obtain ⟨hra, hx⟩ := hst.out
              obtain ⟨F', s', hgd', hpk', hep'⟩ : ∃ F s, Good wc ((QG g bb wb pa pb mm).at_ jb) F s (2 * mm) ∧ PrsK wc ((QG g bb wb pa pb mm).at_ jb) u15 (prsOf s.V) ∧ s.ep ≤ (k : Int) + 2 := by
                rcases hx with ⟨_, hx⟩ | ⟨hx, _⟩
                · exact hx
                · exact absurd hx h30
              have d1 : (ec == 30) = false := beq_eq_false_iff_ne.2 h30
              obtain ⟨A3, c3, rfl, _⟩ := hpk'.open_
              obtain ⟨n3, hn3⟩ : ∃ n3, (prsOf s'.V).length = n3 := ⟨_, rfl⟩
              have hn32 : n3 ≤ 32 := by rw [← hn3]; exact prsOf_len _
              rw [hn3] at hpk' ⊢
              have kp : Calls Try.prog 14 #[.pointer (some ⟨jb, 0, none⟩)] wc fun e w' => ∃ v, e = .returned v ∧ OwnPrs w' wc.heap.size v (prsOf s'.V) ∧ Below wc.heap.size wc w' := pairs_f wc ((QG g bb wb pa pb mm).at_ jb) F' s' hgd'.j
              have HX := Lib.hid (And.intro hra.bel (And.intro hgd' (And.intro hpk' (And.intro hep' hn3))))
              clear hst hra hx hgd' hpk' hep' hn3 h30
              go_wp2_with fail
              refine kp.mono ?_
              rintro e w9 ⟨v9, rfl, ho9, b9⟩
              obtain ⟨A9, c9, rfl, _, hp9⟩ := ho9.prs
              rw [HX.out.2.2.2.2] at hp9 ⊢
              have kq := psame_yes w9 A9 A3 n3 c9 c3 _ hp9 ((HX.out.2.2.1.below b9).at_ HX.out.2.2.2.2).prs hn32 (prsOf_short fun kk ll hh => HX.out.2.1.j.vals.short kk ll hh)
              have H9 := Lib.hid b9
              clear kp ho9 b9 hp9
              go_wp2_with fail
              refine kq.mono ?_
              rintro e w10 ⟨rfl, b10⟩
              have H10 := Lib.hid (H9.out.trans (b10.mono H9.out.size))
              clear kq b10
              go_wp2_with fail
              go_roundw
              case rel => exact ⟨k + 1, by omega, by go_num, F', s', HX.out.2.1.below H10.out, HX.out.2.2.1.below H10.out, by have := HX.out.2.2.2.1; omega, HX.out.1.trans (H10.out.mono HX.out.1.size)⟩
              case measure => simp [intOf]; omega
        · have HX := Lib.hid (And.intro hB (And.intro (hgd.end_ (n := jb) (Q := (QG g bb wb pa pb mm)) (by omega)) hpr))
          clear hgd hpr hep hB HP HW
          have hkm : ¬ ((k : Int) < (m : Int)) := by omega
          go_wp2_with fail
          go_meet
          case rel => exact ⟨s.V, HX.out⟩
    case rest =>
      obtain ⟨V, hbc, hen, hpk⟩ := hcut
      obtain ⟨W0, F0, G1, c1, ep1, en1, t1, t2, t3, t4, t5, t6, t7⟩ := hen
      obtain ⟨A3, c3, rfl, _⟩ := hpk.open_
      obtain ⟨np, hnp⟩ : ∃ np, (prsOf V).length = np := ⟨_, rfl⟩
      have hnp32 : np ≤ 32 := by rw [← hnp]; exact prsOf_len _
      rw [hnp] at hpk ⊢
      have HNP := Lib.hid hnp
      have kr := restore_f wc g bb wb G1 t3
      have HT := Lib.hid (And.intro t1 (And.intro t2 (And.intro t4 (And.intro t5 (And.intro t6 (And.intro t7 (And.intro hbc hpk)))))))
      clear t1 t2 t3 t4 t5 t6 t7 hbc hpk hnp HP HW H5 B5 H4 HB
      go_wp2_with fail
      refine kr.mono ?_
      rintro e w6 ⟨rfl, hf6, o6⟩
      obtain ⟨t1, t2, t4, t5, t6, t7, hbc, hpk⟩ := HT.out
      have hq6 : PQAt w6 (QG g bb wb pa pb mm) (onF G1) := EndAt.restored (n := jb) (sz := 2 * mm) (V := V) hf6 o6 t1 t2 t4 t5
      have hp6 := hpk.but4 (But4.of_but3 (But3.only1 o6))
      have hb6 := hbc.trans (o6.toBelow hbc.size HL.out.1)
      have hh6 : Held (onF G1) ((QG g bb wb pa pb mm).at_ jb) (2 * mm) c1 ep1 V en1 := t6.dat rfl
      have e95 := and511k ag
      obtain ⟨an, han⟩ : ∃ an, bits .and .i64 ag 511 = an := ⟨_, rfl⟩
      rw [han] at e95
      have han2 : 0 ≤ an ∧ an ≤ 511 := by omega
      have kc := cut_f w6 g bb wb (onF G1) an hf6 (by omega) (by omega)
      have H6 := Lib.hid (And.intro hq6 (And.intro hp6 (And.intro hb6 (And.intro hh6 t7))))
      clear e95 kr hf6 o6 t1 t2 t4 t5 t6 t7 hbc hpk hq6 hp6 hb6 hh6 HT
      go_wp2_with fail
      refine kc.mono ?_
      rintro e w7 ⟨rfl, hf7, o7⟩
      have hq7 : PQAt w7 (QG g bb wb pa pb mm) { onF G1 with cut := decide (0 ≤ an), rest := an } := H6.out.1.turned (But3.only1 o7) hf7 rfl rfl (cut_sane (onF G1) an han2.1 rfl).2
      have hp7 := H6.out.2.1.but4 (But4.of_but3 (But3.only1 o7))
      have hb7 := H6.out.2.2.1.trans (o7.toBelow H6.out.2.2.1.size HL.out.1)
      have hh7 : Held { onF G1 with cut := decide (0 ≤ an), rest := an } ((QG g bb wb pa pb mm).at_ jb) (2 * mm) c1 ep1 V en1 := H6.out.2.2.2.1.dat rfl
      have hep := H6.out.2.2.2.2
      have ko := jopen_f w7 (QG g bb wb pa pb mm) _ hq7 (by show ((min (2 * mm) (2 * mm) : Nat) : Int) ≤ 65536; omega)
      have H7 := Lib.hid (And.intro hq7 (And.intro hp7 (And.intro hb7 (And.intro hh7 hep))))
      clear kc hf7 o7 hq7 hp7 hb7 hh7 hep H6 han
      go_wp2_with fail
      refine ko.mono ?_
      intro e w8 hp
      have hmk := make_up H7.out.1 rfl (show min ((QG g bb wb pa pb mm).si 0) ((QG g bb wb pa pb mm).si 1) = 2 * mm from Nat.min_self _) (by omega) (.inl (by show 2 * mm * 0 + 2 * mm ≤ 2 * mm * 1; omega)) H7.out.2.2.2.1 (by have := H7.out.2.2.2.2; omega) hp
      clear ko hp
      rcases hmk with ⟨rfl, b8, G8, s8, hop⟩ | ⟨rfl, b8, G8, hf8, hs8, hw8, hh8⟩
      · obtain ⟨kb, hkb⟩ : ∃ kb, w7.heap.size = kb := ⟨_, rfl⟩
        have hp8 := H7.out.2.1.but4 (But4.of_but3 b8)
        have hb8 := H7.out.2.2.1.trans (b8.toBelow H7.out.2.2.1.size HL.out.1 HL.out.2.1 HL.out.2.2.1)
        rw [hkb] at hop ⊢
        have HO8 := Lib.hid hop
        have HP8 := Lib.hid (And.intro hp8 hb8)
        clear hop hp8 hb8 b8 hkb H7
        have hsh := prsOf_short fun kk ll hh => HO8.out.1.vals.short kk ll hh
        rw [HO8.out.2.2.2.2.1] at hsh
        have HSH := Lib.hid hsh
        have kr := restore_f w8 g bb wb G8 HO8.out.1.fl
        clear hsh
        go_wp2_with fail
        refine kr.mono ?_
        rintro e w9 ⟨rfl, hf9, o9⟩
        have hj9 : JAt w9 ((QG g bb wb pa pb mm).at_ kb) (onF G8) s8 := HO8.out.1.flash (But3.only1 o9) hf9 (onF_on G8).sane ⟨rfl, rfl⟩
        have hp9 := HP8.out.1.but4 (But4.of_but3 (But3.only1 o9))
        have hb9 := HP8.out.2.trans (o9.toBelow HP8.out.2.size HL.out.1)
        have kp : Calls Try.prog 14 #[.pointer (some ⟨kb, 0, none⟩)] w9 fun e w' => ∃ v, e = .returned v ∧ OwnPrs w' w9.heap.size v (prsOf s8.V) ∧ Below w9.heap.size w9 w' := pairs_f w9 ((QG g bb wb pa pb mm).at_ kb) (onF G8) s8 hj9
        have H9 := Lib.hid (And.intro hj9 (And.intro hp9 hb9))
        clear kr hf9 o9 hj9 hp9 hb9
        go_wp2_with fail
        refine kp.mono ?_
        rintro e w10 ⟨v10, rfl, ho10, b10⟩
        rw [HO8.out.2.2.2.2.1] at ho10
        obtain ⟨A10, c10, rfl, _, hp10⟩ := ho10.prs
        rw [HNP.out] at hp10 ⊢
        have hj10 := H9.out.1.below b10
        have ko := jopen_f w10 (QG g bb wb pa pb mm) (onF G8) (PQAt.of_jat hj10) (by show ((min (2 * mm) (2 * mm) : Nat) : Int) ≤ 65536; omega)
        have H10 := Lib.hid (And.intro hj10 (And.intro (H9.out.2.1.below b10) (And.intro (H9.out.2.2.trans (b10.mono H9.out.2.2.size)) hp10)))
        clear kp ho10 b10 hp10 hj10
        go_wp2_with fail
        refine ko.mono ?_
        intro e w11 hp
        have hst8 : Settled (onF G8) ((QG g bb wb pa pb mm).at_ kb) s8 (2 * mm) := HO8.out.2.2.2.1.dat rfl
        obtain ⟨rfl, b11, s11, hj11, hz11, he11, hn11, hv11⟩ := make_again (onF_on G8) (show min ((QG g bb wb pa pb mm).si 0) ((QG g bb wb pa pb mm).si 1) = 2 * mm from Nat.min_self _) (by omega) hst8 hp
        obtain ⟨lb, hlb⟩ : ∃ lb, w10.heap.size = lb := ⟨_, rfl⟩
        have hp11 := H10.out.2.2.2.up b11 b11.size
        have hk11 := H10.out.2.1.below b11
        have hb11 := H10.out.2.2.1.trans (b11.mono H10.out.2.2.1.size)
        rw [hlb] at hj11 ⊢
        have hnow := (hk11.at_ HNP.out).prs
        have kq := psame_yes w11 A10 A3 np c10 c3 _ hp11 hnow hnp32 HSH.out
        have kp : ∀ wq, Below w11.heap.size w11 wq → Calls Try.prog 14 #[.pointer (some ⟨lb, 0, none⟩)] wq fun e w' => ∃ v, e = .returned v ∧ OwnPrs w' wq.heap.size v (prsOf s11.V) ∧ Below wq.heap.size wq w' := fun wq hq => pairs_f wq ((QG g bb wb pa pb mm).at_ lb) (onF G8) s11 (hj11.below hq)
        have H11 := Lib.hid (And.intro hb11 (And.intro hp11 (And.intro (hv11.trans HO8.out.2.2.2.2.1) kp)))
        clear ko hp hst8 b11 hj11 hz11 he11 hn11 hv11 hlb hp11 hk11 hb11 hnow kp
        go_wp2_with fail
        refine kq.mono ?_
        rintro e w12 ⟨rfl, b12⟩
        have kp := H11.out.2.2.2 w12 b12
        have H12 := Lib.hid b12
        clear kq b12
        go_wp2_with fail
        refine kp.mono ?_
        rintro e w13 ⟨v13, rfl, ho13, b13⟩
        rw [H11.out.2.2.1] at ho13
        obtain ⟨A13, c13, rfl, _, hp13⟩ := ho13.prs
        rw [HNP.out] at hp13 ⊢
        have b1113 := H12.out.trans (b13.mono H12.out.size)
        have kq := psame_yes w13 A13 A10 np c13 c10 _ hp13 (H11.out.2.1.up b1113 b1113.size) hnp32 HSH.out
        have H13 := Lib.hid b1113
        clear kp ho13 b13 hp13 b1113
        go_wp2_with fail
        refine kq.mono ?_
        rintro e w14 ⟨rfl, b14⟩
        have H14 := Lib.hid ((H11.out.1.trans (H13.out.mono H11.out.1.size)).trans (b14.mono (H11.out.1.trans (H13.out.mono H11.out.1.size)).size))
        clear kq b14
        go_wp2
        go_ret
        exact ⟨rfl, H14.out⟩
      · have hp8 := H7.out.2.1.but4 (But4.of_but3 b8)
        have hb8 := H7.out.2.2.1.trans (b8.toBelow H7.out.2.2.1.size HL.out.1 HL.out.2.1 HL.out.2.2.1)
        have kr := restore_f w8 g bb wb G8 hf8
        have HX := Lib.hid (And.intro H7.out.1 (And.intro b8 (And.intro hs8 (And.intro hw8 (And.intro hh8 (And.intro hp8 (And.intro hb8 H7.out.2.2.2.2)))))))
        clear hp8 hb8 b8 hf8 hs8 hw8 hh8 H7
        go_wp2_with fail
        refine kr.mono ?_
        rintro e w8a ⟨rfl, hf8, o8⟩
        obtain ⟨x1, x2, x3, x4, x5, x6, x7, x8⟩ := HX.out
        have hq8 : PQAt w8a (QG g bb wb pa pb mm) (onF G8) := EndAt.restored (n := jb) (sz := 2 * mm) (V := V) hf8 o8 x1 x2 x3 x4
        have hp8 := x6.but4 (But4.of_but3 (But3.only1 o8))
        have hb8 := x7.trans (o8.toBelow x7.size HL.out.1)
        have hh8 : Held (onF G8) ((QG g bb wb pa pb mm).at_ jb) (2 * mm) c1 ep1 V en1 := x5.dat rfl
        have ko := jopen_f w8a (QG g bb wb pa pb mm) _ hq8 (by show ((min (2 * mm) (2 * mm) : Nat) : Int) ≤ 65536; omega)
        have H8 := Lib.hid (And.intro hq8 (And.intro hp8 (And.intro hb8 (And.intro hh8 x8))))
        clear kr hf8 o8 x1 x2 x3 x4 x5 x6 x7 x8 hq8 hp8 hb8 hh8 HX
        go_wp2_with fail
        refine ko.mono ?_
        intro e w8b hp
        obtain ⟨rfl, b8, G8b, s8, hop⟩ := make_held H8.out.1 (onF_on G8) (show min ((QG g bb wb pa pb mm).si 0) ((QG g bb wb pa pb mm).si 1) = 2 * mm from Nat.min_self _) (by omega) (.inl (by show 2 * mm * 0 + 2 * mm ≤ 2 * mm * 1; omega)) H8.out.2.2.2.1 (by have := H8.out.2.2.2.2; omega) hp
        obtain ⟨kb, hkb⟩ : ∃ kb, w8a.heap.size = kb := ⟨_, rfl⟩
        have hp8 := H8.out.2.1.but4 (But4.of_but3 b8)
        have hb8 := H8.out.2.2.1.trans (b8.toBelow H8.out.2.2.1.size HL.out.1 HL.out.2.1 HL.out.2.2.1)
        rw [hkb] at hop ⊢
        have HO8 := Lib.hid hop
        have HP8 := Lib.hid (And.intro hp8 hb8)
        clear hop hp8 hb8 b8 hkb H8 ko hp
        have hsh := prsOf_short fun kk ll hh => HO8.out.1.vals.short kk ll hh
        rw [HO8.out.2.2.2.2.1] at hsh
        have HSH := Lib.hid hsh
        have kr := restore_f w8b g bb wb G8b HO8.out.1.fl
        clear hsh
        go_wp2_with fail
        refine kr.mono ?_
        rintro e w9 ⟨rfl, hf9, o9⟩
        have hj9 : JAt w9 ((QG g bb wb pa pb mm).at_ kb) (onF G8b) s8 := HO8.out.1.flash (But3.only1 o9) hf9 (onF_on G8b).sane ⟨rfl, rfl⟩
        have hp9 := HP8.out.1.but4 (But4.of_but3 (But3.only1 o9))
        have hb9 := HP8.out.2.trans (o9.toBelow HP8.out.2.size HL.out.1)
        have kp : Calls Try.prog 14 #[.pointer (some ⟨kb, 0, none⟩)] w9 fun e w' => ∃ v, e = .returned v ∧ OwnPrs w' w9.heap.size v (prsOf s8.V) ∧ Below w9.heap.size w9 w' := pairs_f w9 ((QG g bb wb pa pb mm).at_ kb) (onF G8b) s8 hj9
        have H9 := Lib.hid (And.intro hj9 (And.intro hp9 hb9))
        clear kr hf9 o9 hj9 hp9 hb9
        go_wp2_with fail
        refine kp.mono ?_
        rintro e w10 ⟨v10, rfl, ho10, b10⟩
        rw [HO8.out.2.2.2.2.1] at ho10
        obtain ⟨A10, c10, rfl, _, hp10⟩ := ho10.prs
        rw [HNP.out] at hp10 ⊢
        have hj10 := H9.out.1.below b10
        have ko := jopen_f w10 (QG g bb wb pa pb mm) (onF G8b) (PQAt.of_jat hj10) (by show ((min (2 * mm) (2 * mm) : Nat) : Int) ≤ 65536; omega)
        have H10 := Lib.hid (And.intro hj10 (And.intro (H9.out.2.1.below b10) (And.intro (H9.out.2.2.trans (b10.mono H9.out.2.2.size)) hp10)))
        clear kp ho10 b10 hp10 hj10
        go_wp2_with fail
        refine ko.mono ?_
        intro e w11 hp
        have hst8 : Settled (onF G8b) ((QG g bb wb pa pb mm).at_ kb) s8 (2 * mm) := HO8.out.2.2.2.1.dat rfl
        obtain ⟨rfl, b11, s11, hj11, hz11, he11, hn11, hv11⟩ := make_again (onF_on G8b) (show min ((QG g bb wb pa pb mm).si 0) ((QG g bb wb pa pb mm).si 1) = 2 * mm from Nat.min_self _) (by omega) hst8 hp
        obtain ⟨lb, hlb⟩ : ∃ lb, w10.heap.size = lb := ⟨_, rfl⟩
        have hp11 := H10.out.2.2.2.up b11 b11.size
        have hk11 := H10.out.2.1.below b11
        have hb11 := H10.out.2.2.1.trans (b11.mono H10.out.2.2.1.size)
        rw [hlb] at hj11 ⊢
        have hnow := (hk11.at_ HNP.out).prs
        have kq := psame_yes w11 A10 A3 np c10 c3 _ hp11 hnow hnp32 HSH.out
        have kp : ∀ wq, Below w11.heap.size w11 wq → Calls Try.prog 14 #[.pointer (some ⟨lb, 0, none⟩)] wq fun e w' => ∃ v, e = .returned v ∧ OwnPrs w' wq.heap.size v (prsOf s11.V) ∧ Below wq.heap.size wq w' := fun wq hq => pairs_f wq ((QG g bb wb pa pb mm).at_ lb) (onF G8b) s11 (hj11.below hq)
        have H11 := Lib.hid (And.intro hb11 (And.intro hp11 (And.intro (hv11.trans HO8.out.2.2.2.2.1) kp)))
        clear ko hp hst8 b11 hj11 hz11 he11 hn11 hv11 hlb hp11 hk11 hb11 hnow kp
        go_wp2_with fail
        refine kq.mono ?_
        rintro e w12 ⟨rfl, b12⟩
        have kp := H11.out.2.2.2 w12 b12
        have H12 := Lib.hid b12
        clear kq b12
        go_wp2_with fail
        refine kp.mono ?_
        rintro e w13 ⟨v13, rfl, ho13, b13⟩
        rw [H11.out.2.2.1] at ho13
        obtain ⟨A13, c13, rfl, _, hp13⟩ := ho13.prs
        rw [HNP.out] at hp13 ⊢
        have b1113 := H12.out.trans (b13.mono H12.out.size)
        have kq := psame_yes w13 A13 A10 np c13 c10 _ hp13 (H11.out.2.1.up b1113 b1113.size) hnp32 HSH.out
        have H13 := Lib.hid b1113
        clear kp ho13 b13 hp13 b1113
        go_wp2_with fail
        refine kq.mono ?_
        rintro e w14 ⟨rfl, b14⟩
        have H14 := Lib.hid ((H11.out.1.trans (H13.out.mono H11.out.1.size)).trans (b14.mono (H11.out.1.trans (H13.out.mono H11.out.1.size)).size))
        clear kq b14
        go_wp2
        go_ret
        exact ⟨rfl, H14.out⟩
end Go.Proofs.Ytpdlipkmojhnnaa
