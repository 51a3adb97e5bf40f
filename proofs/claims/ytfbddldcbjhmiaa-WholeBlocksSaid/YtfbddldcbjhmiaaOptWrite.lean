/-
  Options written as bytes.
-/
import Derived.Test.YtfbddldcbjhmiaaOptStab2
import Derived.Maps.AppendAt
namespace Go.Proofs.Ytfbddldcbjhmiaa
open Go.RowKit
set_option maxRecDepth 100000
set_option linter.unusedVariables false
theorem or16 : ∀ a : Nat, a < 15 → ∀ n : Nat, n < 15 → bits .or .u8 ((a : Int) * 16 % 256) (n : Int) = ((UInt8.ofNat (a * 16 + n)).toNat : Int) := by decide +kernel
/-- One option's bytes behind a number. -/
def optB (d : Nat) (l : List UInt8) : List UInt8 := UInt8.ofNat ((tl d).1 * 16 + (tl l.length).1) :: ((tl d).2 ++ (tl l.length).2 ++ l)
def wrStep (acc : List UInt8 × Int) (x : Int × List UInt8) : List UInt8 × Int := (acc.1 ++ optB (x.1 - acc.2).toNat x.2, x.1)
/-- The bytes of sorted options, the last number. -/
def wrF (ps : List (Int × List UInt8)) : List UInt8 × Int := ps.foldl wrStep ([], 0)
theorem wrF_snoc (ps : List (Int × List UInt8)) (x : Int × List UInt8) : wrF (ps ++ [x]) = wrStep (wrF ps) x := by unfold wrF; rw [List.foldl_append]; rfl
/-- Rising, and within bounds. -/
def Okp (ps : List (Int × List UInt8)) : Prop := ps.Pairwise (fun a b => a.1 ≤ b.1) ∧ ∀ x ∈ ps, 0 ≤ x.1 ∧ x.1 ≤ 65535 ∧ x.2.length ≤ 300
theorem wrF_last {ps : List (Int × List UInt8)} (h : Okp ps) : 0 ≤ (wrF ps).2 ∧ (wrF ps).2 ≤ 65535 ∧ ((wrF ps).2 = 0 ∨ ∃ x ∈ ps, x.1 = (wrF ps).2) := by
  rcases List.eq_nil_or_concat ps with rfl | ⟨r, x, rfl⟩
  · exact ⟨Int.le_refl 0, by show (0 : Int) ≤ 65535; omega, .inl rfl⟩
  · rw [List.concat_eq_append, wrF_snoc]
    have hx := h.2 x (by rw [List.concat_eq_append]; simp)
    exact ⟨hx.1, hx.2.1, .inr ⟨x, by simp, rfl⟩⟩
theorem okp_take {ps : List (Int × List UInt8)} (h : Okp ps) (k : Nat) : Okp (ps.take k) := ⟨h.1.sublist (List.take_sublist _ _), fun x hx => h.2 x (List.mem_of_mem_take hx)⟩
theorem okp_next {ps : List (Int × List UInt8)} (h : Okp ps) {k : Nat} {x : Int × List UInt8} (hx : ps[k]? = some x) : (wrF (ps.take k)).2 ≤ x.1 ∧ 0 ≤ (wrF (ps.take k)).2 := by
  have h1 := wrF_last (okp_take h k)
  have hxb := h.2 x (List.mem_of_getElem? hx)
  refine ⟨?_, h1.1⟩
  rcases h1.2.2 with h2 | ⟨y, hy, h2⟩
  · rw [h2]; exact hxb.1
  · rw [← h2]
    obtain ⟨j, hj⟩ := List.mem_iff_getElem?.1 hy
    have hjk : j < k := by have := (List.getElem?_eq_some_iff.1 hj).1; rw [List.length_take] at this; omega
    rw [List.getElem?_take_of_lt hjk] at hj
    obtain ⟨a1, a2⟩ := List.getElem?_eq_some_iff.1 hj
    obtain ⟨b1, b2⟩ := List.getElem?_eq_some_iff.1 hx
    have := List.pairwise_iff_getElem.1 h.1 j k a1 b1 hjk
    rw [a2, b2] at this
    exact this
theorem optB_len (d : Nat) (l : List UInt8) : (optB d l).length ≤ l.length + 5 := by
  unfold optB
  have h1 := (tl_bd d).2
  have h2 := (tl_bd l.length).2
  simp only [List.length_cons, List.length_append]
  omega
theorem wrF_len {ps : List (Int × List UInt8)} (h : ∀ x ∈ ps, x.2.length ≤ 300) : (wrF ps).1.length ≤ 305 * ps.length := by
  suffices hh : ∀ r : List (Int × List UInt8), (∀ x ∈ r, x.2.length ≤ 300) → (wrF r.reverse).1.length ≤ 305 * r.length by
    have := hh ps.reverse (fun x hx => h x (List.mem_reverse.1 hx))
    rwa [List.reverse_reverse, List.length_reverse] at this
  intro r
  induction r with
  | nil => intro _; exact Nat.zero_le _
  | cons x r ih =>
    intro hr
    rw [List.reverse_cons, wrF_snoc, List.length_cons]
    have h1 := ih (fun y hy => hr y (List.mem_cons_of_mem _ hy))
    have h2 := optB_len (x.1 - (wrF r.reverse).2).toNat x.2
    have h3 := hr x List.mem_cons_self
    show ((wrF r.reverse).1 ++ optB _ x.2).length ≤ _
    rw [List.length_append]
    omega
section
variable {P : Program} (w : World)
theorem run_append_bs_at (base : Nat) (t ty e : TypeId) (i : TypeInfo) (ht : P.underlying t = some (.slice e)) (hi : P.info? e = some i) (hz : i.zero = some (.int .u8 0))
    (hsize : i.size = 1) (hby : i.bytes = 1) (v : Value) (n : Nat) (xs : List Value) (hown : w.ownsRow base e 1 v n xs)
    {B : Nat} {A : Option Addr} {m c : Nat} {l : List UInt8} (hb : Bs w B A m l) (hnm : n + m ≤ 140737488355328) (hbase : base ≤ w.heap.size) :
    ∃ v' w', (Builtin.append_ #[t, t] ty #[v, .slice A m c]).run P w = .ok v' w' ∧ w'.ownsRow base e 1 v' (n + m) (xs ++ U8 l) ∧ w.grownBy w' v.ownBlock ∧ (v'.ownBlock = v.ownBlock ∨ v'.ownBlock = some w.heap.size) := by
  have hl := hb.len
  rcases A with _ | ad
  · have hm : m = 0 := by
      rcases Nat.eq_zero_or_pos m with h0 | h0
      · exact h0
      · obtain ⟨_, _, h, _⟩ := hb.place h0
        cases h
    subst hm
    obtain rfl : l = [] := List.eq_nil_of_length_eq_zero hl
    refine ⟨v, w, ?_, by simpa [U8] using hown, World.grownBy.refl w _, .inl rfl⟩
    rcases hown.2 with ⟨rfl, rfl⟩ | ⟨g, cap, cur, rfl, _, _, hnc, _⟩
    · simp [Builtin.append_, run_underlying ht, sizeOf, typeInfo, hi, Builtin.lenOf, Builtin.firstCells]
    · simp [Builtin.append_, run_underlying ht, sizeOf, typeInfo, hi, Builtin.lenOf, Builtin.firstCells, hnc, storeCells]
  · have hcells : ∀ j u, (U8 l)[j]? = some u → w.cell? (ad.add j) = some u := by
      intro j u hu
      rw [U8_get] at hu
      obtain ⟨x, hx, rfl⟩ := Option.map_eq_some_iff.1 hu
      have hj := (List.getElem?_eq_some_iff.1 hx).1
      obtain ⟨b, off, h, _, hc⟩ := hb.place (by omega)
      injection h with h
      subst h
      rw [Addr.add_lit]
      exact hc j x hx
    obtain ⟨v', w', hrun, h2, h3, _, h5⟩ := run_append_own_at (P := P) w base t ty e i (.int .u8 0) 1 1 ht hi hz hsize hby rfl (by omega) v n xs hown ad m c (U8 l) (by rw [U8_length]; omega) hcells (U8_one l) (by simp only [maxLen]; omega) (by omega) hbase
    exact ⟨v', w', hrun, h2, h3, h5⟩
theorem wpList_append_bs_at {ops : Array Oper} {rest : List Oper} {o : Oper} {a : Act} {Q : Exit → Act → World → Prop} (hgd : o.guard = none) (s x : Operand) (t : TypeId)
    (ho : o.op = .call { callee := .builtin .append, args := #[s, x], argTypes := #[t, t] })
    (base : Nat) (e : TypeId) (i : TypeInfo) (ht : P.underlying t = some (.slice e)) (hi : P.info? e = some i) (hz : i.zero = some (.int .u8 0))
    (hsize : i.size = 1) (hby : i.bytes = 1) (v : Value) (n : Nat) (xs : List Value) (hs : a.eval s = v) (hown : w.ownsRow base e 1 v n xs)
    (B : Nat) (A : Option Addr) (m c : Nat) (l : List UInt8) (hx : a.eval x = .slice A m c) (hb : Bs w B A m l) (hnm : n + m ≤ 140737488355328) (hbase : base ≤ w.heap.size)
    (h : ∀ v' w', w'.ownsRow base e 1 v' (n + m) (xs ++ U8 l) → w.grownBy w' v.ownBlock → (v'.ownBlock = v.ownBlock ∨ v'.ownBlock = some w.heap.size) → wpList P ops Q rest (a.put o.dst v') w') : wpList P ops Q (o :: rest) a w :=
  wpList_plain hgd fun _ hK => by
    obtain ⟨v', w', hrun, h2, h3, h4⟩ := run_append_bs_at (P := P) w base t o.type e i ht hi hz hsize hby v n xs hown (c := c) hb hnm hbase
    unfold Oper.wp execOp
    simp only [ho, resolve, invoke, builtin, Sem.run_bind, Sem.run_pure, Result.andThen_ok, List.map_toArray, List.map_cons, List.map_nil, hs, hx, hrun]
    exact hK _ _ (h v' w' h2 h3 h4)
end
/-- Bytes that lie from a block on, ahead of another one. -/
def Mid (w : World) (h0 H : Nat) (A : Option Addr) (n : Nat) (l : List UInt8) : Prop := Bs w H A n l ∧ ∀ a, A = some a → h0 ≤ a.block
theorem Mid.of_own {w : World} {h0 n : Nat} {e : TypeId} {A : Option Addr} {c : Nat} {l : List UInt8} (h : w.ownsRow h0 e 1 (.slice A n c) n (U8 l)) : Mid w h0 w.heap.size A n l := by
  obtain ⟨A', c', e1, _, hb⟩ := Bs.of_own h
  injection e1 with e1 _ _
  subst e1
  refine ⟨hb, fun a ha => ?_⟩
  subst ha
  exact own_ge h a.block rfl
theorem Mid.below {w w' : World} {h0 H n : Nat} {A : Option Addr} {l : List UInt8} (h : Mid w h0 H A n l) (hb : Below w.heap.size w w') (hH : H ≤ w.heap.size) : Mid w' h0 H A n l := ⟨h.1.below' hb hH, h.2⟩
theorem Mid.more {w : World} {h0 h1 H H' n : Nat} {A : Option Addr} {l : List UInt8} (h : Mid w h0 H A n l) (hH : H ≤ H') (hh : h1 ≤ h0) : Mid w h1 H' A n l := ⟨h.1.more hH, fun a ha => Nat.le_trans hh (h.2 a ha)⟩
/-- A row's block lies ahead of all that, or behind. -/
def Far (v : Value) (h0 H : Nat) : Prop := ∀ g, v.ownBlock = some g → g < h0 ∨ H ≤ g
theorem Mid.grown {w w' : World} {h0 H n : Nat} {A : Option Addr} {l : List UInt8} {v : Value} (h : Mid w h0 H A n l) (hg : w.grownBy w' v.ownBlock) (hH : H ≤ w.heap.size) (hf : Far v h0 H) : Mid w' h0 H A n l := by
  refine ⟨⟨h.1.len, fun hn => ?_⟩, h.2⟩
  obtain ⟨b, off, rfl, hb, hc⟩ := h.1.place hn
  refine ⟨b, off, rfl, hb, fun k u hu => ?_⟩
  have hlo := h.2 _ rfl
  have hlo' : h0 ≤ b := hlo
  rw [World.cell?_of_block (hg.block b (by omega) (fun e => by rcases hf b e.symm with h1 | h1 <;> omega))]
  exact hc k u hu
theorem Far.next {v v' : Value} {h0 H sz : Nat} (hf : Far v h0 H) (h : v'.ownBlock = v.ownBlock ∨ v'.ownBlock = some sz) (hs : H ≤ sz) : Far v' h0 H := by
  intro g hg
  rcases h with h | h
  · rw [h] at hg; exact hf g hg
  · rw [h] at hg
    injection hg with hg
    exact .inr (by omega)
theorem far_cell {w w' : World} {h0 H o : Nat} {v u : Value} (hc : w.cell? ⟨h0, o, none⟩ = some u) (hg : w.grownBy w' v.ownBlock) (hf : Far v h0 H) (hH : h0 < H) (hw : H ≤ w.heap.size) : w'.cell? ⟨h0, o, none⟩ = some u := by
  rw [World.cell?_of_block (hg.block h0 (by omega) (fun e => by rcases hf h0 e.symm with h1 | h1 <;> omega))]
  exact hc
/-- What the bytes of an option are put together from. -/
structure Seg (W : World) (h0 H B : Nat) (A1 : Option Addr) (l1 : Nat) (L1 : List UInt8) (A2 : Option Addr) (l2 : Nat) (L2 : List UInt8) (sk : Int) (sA : Option Addr) (sn sc : Nat) (l : List UInt8) : Prop where
  m1 : Mid W h0 H A1 l1 L1
  m2 : Mid W h0 H A2 l2 L2
  bs : Bs W B sA sn l
  c0 : W.cell? ⟨h0, 0, none⟩ = some (.int .i64 sk)
  c1 : W.cell? ⟨h0, 1, none⟩ = some (.slice sA sn sc)
  lt : h0 < H
  le : H ≤ W.heap.size
  lo : B ≤ h0
theorem Seg.grown {W W' : World} {h0 H B l1 l2 sn sc base n : Nat} {A1 A2 sA : Option Addr} {L1 L2 l : List UInt8} {sk : Int} {v : Value} {xs : List Value} (h : Seg W h0 H B A1 l1 L1 A2 l2 L2 sk sA sn sc l) (ho : W.ownsRow base 5 1 v n xs) (hB : B ≤ base) (hg : W.grownBy W' v.ownBlock) (hf : Far v h0 H) : Seg W' h0 H B A1 l1 L1 A2 l2 L2 sk sA sn sc l :=
  ⟨h.m1.grown hg h.le hf, h.m2.grown hg h.le hf, h.bs.grown hg (by have := h.lt; have := h.le; have := h.lo; omega) (fun g e => Nat.le_trans hB (own_ge ho g e)), far_cell h.c0 hg hf h.lt h.le, far_cell h.c1 hg hf h.lt h.le, h.lt, Nat.le_trans h.le hg.size, h.lo⟩
theorem Seg.below {W W' : World} {h0 H B l1 l2 sn sc : Nat} {A1 A2 sA : Option Addr} {L1 L2 l : List UInt8} {sk : Int} (h : Seg W h0 H B A1 l1 L1 A2 l2 L2 sk sA sn sc l) (hb : Below W.heap.size W W') : Seg W' h0 H B A1 l1 L1 A2 l2 L2 sk sA sn sc l :=
  ⟨h.m1.below hb h.le, h.m2.below hb h.le, h.bs.below' hb (by have := h.lt; have := h.le; have := h.lo; omega), (hb.cell (p := ⟨h0, 0, none⟩) (Nat.lt_of_lt_of_le h.lt h.le)).trans h.c0, (hb.cell (p := ⟨h0, 1, none⟩) (Nat.lt_of_lt_of_le h.lt h.le)).trans h.c1, h.lt, Nat.le_trans h.le hb.size, h.lo⟩
theorem Far.more {v : Value} {h0 H : Nat} {w : World} {base n : Nat} {e : TypeId} {size : Nat} {xs : List Value} (ho : w.ownsRow base e size v n xs) (hh : w.heap.size ≤ h0) : Far v h0 H := fun g eg => .inl (Nat.lt_of_lt_of_le (ho.lt g eg).2 hh)
/-- Bytes and an error returned. -/
def WrRet (r : List UInt8 × Int) (w : World) (e : Ending) (w' : World) : Prop :=
  ∃ A n c, e = .returned (.tuple #[.slice A n c, .int .i64 r.2]) ∧ (n ≤ c ∧ c ≤ maxLen) ∧ Hid (n = r.1.length) ∧ Bs w' w'.heap.size A n r.1 ∧ Below w.heap.size w w'
def wrO (w : World) (vs : List Sv) : List UInt8 × Int := if errOf vs = 0 then ((wrF ((sortS vs).map (rd w))).1, 0) else ([], errOf vs)
theorem errOf_ok {w : World} {B n : Nat} {A : Option Addr} {vs : List Sv} {ps : List (Int × List UInt8)} (h : Os w B A n vs ps) (he : errOf vs = 0) : Okp ((sortS vs).map (rd w)) ∧ vs.length ≤ 24 := by
  unfold errOf at he
  split at he
  · cases he
  · rename_i h24
    split at he
    · cases he
    · rename_i hb
      split at he
      · cases he
      · rename_i hl
        refine ⟨⟨?_, fun x hx => ?_⟩, by omega⟩
        · rw [List.pairwise_map]
          exact (sortS_up vs).imp fun h => h
        · obtain ⟨s, hs, rfl⟩ := List.mem_map.1 hx
          have hs' := (sortS_mem vs s).1 hs
          have hb' : vs.any (fun s => badNum s.k) = false := by cases e : vs.any (fun s => badNum s.k) with | true => exact absurd e hb | false => rfl
          have hl' : vs.any (fun s => decide ((300 : Int) < s.n)) = false := by cases e : vs.any (fun s => decide ((300 : Int) < s.n)) with | true => exact absurd e hl | false => rfl
          rw [List.any_eq_false] at hb' hl'
          have e1 := hb' s hs'
          have e2 := hl' s hs'
          unfold badNum at e1
          have e3 := (h.dp s hs').bs.len
          simp only [Bool.or_eq_true, decide_eq_true_eq, not_or, Int.not_lt] at e1 e2
          refine ⟨e1.1, e1.2, ?_⟩
          show (rdW w s.A s.n).length ≤ 300
          omega
set_option maxHeartbeats 4000000 in
theorem write_f (A : Option Addr) (n c : Nat) (vs : List Sv) (ps : List (Int × List UInt8)) (w : World) (B : Nat) (hos : Os w B A n vs ps) (hB : B ≤ w.heap.size) (hn : (n : Int) ≤ 9223372036854775807) :
    Calls Try.prog 40 #[.slice A n c] w (WrRet (wrO w vs) w) := by
  obtain ⟨i0, hi0, hz0, hz1, hz2⟩ := info_parts info_u8
  have hck := check_f A n c vs w B hos.sh hB hn
  obtain ⟨er, her⟩ : ∃ er, errOf vs = er := ⟨_, rfl⟩
  by_cases he : er = 0
  · subst he
    have hn20 : n ≤ 24 := by have := (errOf_ok hos her).2; have := hos.sh.len; omega
    have hwr : wrO w vs = ((wrF ((sortS vs).map (rd w))).1, 0) := by unfold wrO; rw [if_pos her]
    obtain ⟨hok, _⟩ := errOf_ok hos her
    rw [her] at hck
    have HW := Lib.hid (And.intro hwr (And.intro hok hos))
    clear hwr hok hos her
    go_enter Try.func40, Try.ntmps40
    go_wp2_with (first
      | (go_at_call 68; refine hck.mono ?_; rintro e w1 ⟨rfl, b1⟩; have H1 := Lib.hid b1; have hcl := oclone_f A n c vs w1 B (HW.out.2.2.sh.below' b1 hB) (Nat.le_trans hB b1.size) (by omega); clear b1)
      | (go_at_call 69; refine hcl.mono ?_; rintro e w2 ⟨v2, rfl, ho2, b2⟩; have hso := sortst2_f v2 n vs w2 w1.heap.size ho2 (by omega); have H2 := Lib.hid (And.intro b2 ho2); clear ho2 b2)
      | (go_at_call 70; refine hso.mono ?_; rintro e w3 ⟨rfl, ho3, g3⟩; obtain ⟨A3, c3, rfl, hc3, hsh3⟩ := Sh.of_own ho3; have H3 := Lib.hid (And.intro ho3 (And.intro g3 hsh3)); clear ho3 g3 hsh3))
    have hps : (sortS vs).map (rd w3) = (sortS vs).map (rd w) ∧ Os w3 w3.heap.size A3 n (sortS vs) ((sortS vs).map (rd w)) ∧ Below w.heap.size w w3 := by
      have b12 := H1.out.trans (H2.out.1.mono H1.out.size)
      have b3 : Below w.heap.size w w3 := b12.grown H3.out.2.1 b12.size (fun g e => Nat.le_trans H1.out.size (own_ge H2.out.2 g e))
      have hosr := HW.out.2.2.below' b3 hB
      have hdp : Dp w3 B (sortS vs) := hosr.dp.sub fun s hs => (sortS_mem vs s).1 hs
      have heq : (sortS vs).map (rd w3) = (sortS vs).map (rd w) := List.map_congr_left fun s hs => ((HW.out.2.2.dp s ((sortS_mem vs s).1 hs)).keep fun p hp => b3.cell (Nat.lt_of_lt_of_le hp hB)).2
      exact ⟨heq, ⟨H3.out.2.2, hdp.more (Nat.le_trans hB b3.size), heq⟩, b3⟩
    have hdpB : Dp w3 B (sortS vs) := (HW.out.2.2.below' hps.2.2 hB).dp.sub fun s hs => (sortS_mem vs s).1 hs
    obtain ⟨PS, hPS⟩ : ∃ PS, (sortS vs).map (rd w) = PS := ⟨_, rfl⟩
    obtain ⟨VS, hVS⟩ : ∃ VS, sortS vs = VS := ⟨_, rfl⟩
    have hokp := HW.out.2.1
    rw [hPS] at hps hokp
    rw [hVS] at hps hdpB
    have HP := Lib.hid (And.intro hps (And.intro hokp (And.intro hdpB hPS)))
    have hnI : (n : Int) ≤ 24 := by omega
    clear hps hokp hdpB hPS hVS
    go_loopw [6, 7, 9, 25] (fun v ah _ i wr => ∃ k : Nat, k ≤ n ∧ i = .int .i64 k ∧ ah = .int .i64 (wrF (PS.take k)).2 ∧ wr.ownsRow w3.heap.size 5 1 v (wrF (PS.take k)).1.length (U8 (wrF (PS.take k)).1) ∧ Below w3.heap.size w3 wr) (fun _ _ _ i _ => n - (intOf i).toNat)
    case atStart => exact ⟨0, by omega, rfl, rfl, World.ownsRow_nil _ _ _ _, Below.refl _ _⟩
    case round =>
      obtain ⟨k, hk, rfl, rfl, hrow, hbr⟩ := hrel
      by_cases hlt : k < n
      · obtain ⟨⟨_, hos3, hb3⟩, hokp, hdpB, hPS⟩ := HP.out
        have hosr := hos3.below' hbr (Nat.le_refl _)
        obtain ⟨b, off, rfl, hb, _⟩ := hosr.sh.place (by omega)
        obtain ⟨s, hs⟩ := sv_get hosr.sh hlt
        obtain ⟨l, hpl1, hbs⟩ := hosr.get hs
        have hr := hosr.sh.range hs
        have hxb := hokp.2 _ (List.mem_of_getElem? hpl1)
        have hnx := okp_next hokp hpl1
        have hlen := wrF_len (ps := PS.take k) (fun x hx => (hokp.2 x (List.mem_of_mem_take hx)).2.2)
        have hbsB : Bs wr B s.A s.n l := by
          have h1 := (hdpB s (List.mem_of_getElem? hs)).bs
          have h2 := h1.below' hbr (Nat.le_trans hB hb3.size)
          have h3 := rdW_of h2
          rw [rdW_of hbs] at h3
          rw [h3]; exact h2
        have hstep : wrF (PS.take (k + 1)) = wrStep (wrF (PS.take k)) (s.k, l) := by
          rw [List.take_add_one, hpl1]; exact wrF_snoc _ _
        have hsl := hbs.len
        obtain ⟨⟨L0, ah⟩, hL0⟩ : ∃ p, wrF (PS.take k) = p := ⟨_, rfl⟩
        rw [hL0] at hrow hnx hlen hstep ⊢
        obtain ⟨sk, sA, sn, sc⟩ := s
        dsimp only at hr hxb hnx hlen hbsB hstep hsl hrow
        obtain ⟨dN, hdN⟩ : ∃ dN : Nat, sk - ah = (dN : Int) := ⟨(sk - ah).toNat, by omega⟩
        have hd1 : dN ≤ 65804 := by omega
        have hs1 : sn ≤ 65804 := by omega
        have hsp1 := fun W => split_f dN hd1 W
        have hsp2 := fun W => split_f sn hs1 W
        unfold SplitPost at hsp1 hsp2
        have ht1b := tl_bd dN
        have ht2b := tl_bd sn
        have hoB : optB (sk - ah).toNat l = UInt8.ofNat ((tl dN).1 * 16 + (tl sn).1) :: ((tl dN).2 ++ (tl sn).2 ++ l) := by
          unfold optB
          rw [hdN, Int.toNat_natCast, hsl]
        obtain ⟨⟨t1, L1⟩, ht1⟩ : ∃ p, tl dN = p := ⟨_, rfl⟩
        obtain ⟨⟨t2, L2⟩, ht2⟩ : ∃ p, tl sn = p := ⟨_, rfl⟩
        rw [ht1] at hsp1 ht1b hoB
        rw [ht2] at hsp2 ht2b hoB
        dsimp only at hsp1 hsp2 ht1b ht2b hoB
        obtain ⟨lL, hlL⟩ : ∃ q, L0.length = q := ⟨_, rfl⟩
        obtain ⟨l1, hl1⟩ : ∃ q, L1.length = q := ⟨_, rfl⟩
        obtain ⟨l2, hl2⟩ : ∃ q, L2.length = q := ⟨_, rfl⟩
        rw [hlL] at hlen hrow
        rw [hl1] at hsp1 ht1b
        rw [hl2] at hsp2 ht2b
        have hpk : (PS.take k).length ≤ 24 := by rw [List.length_take]; omega
        have hlenI : lL ≤ 7320 := by omega
        have hor := or16 t1 (by omega) t2 (by omega)
        have hm : (t1 : Int) * 16 % 256 = t1 * 16 := by omega
        have hor2 := hor
        rw [hm] at hor2
        obtain ⟨hb8, hhb⟩ : ∃ hb8 : UInt8, UInt8.ofNat (t1 * 16 + t2) = hb8 := ⟨_, rfl⟩
        rw [hhb] at hor hor2
        have hfar0 : Far u6 wr.heap.size (wr.heap.size + 1) := fun g e => .inl (hrow.lt g e).2
        have hbsz := hbr.size
        have hBw : B ≤ wr.heap.size := Nat.le_trans hB (Nat.le_trans hb3.size hbsz)
        have hB3 : B ≤ w3.heap.size := Nat.le_trans hB hb3.size
        have HX := Lib.hid (And.intro hrow (And.intro hbr (And.intro hbsB (And.intro hstep (And.intro hoB (And.intro hlL (And.intro hl1 (And.intro hl2 (And.intro hhb hfar0)))))))))
        have hskI : 0 ≤ sk := by omega
        have hskI2 : sk ≤ 65535 := by omega
        have hahI : 0 ≤ ah := hnx.2
        have hahI2 : ah ≤ sk := hnx.1
        have ht1I : (t1 : Int) ≤ 14 := by omega
        have ht2I : (t2 : Int) ≤ 14 := by omega
        have hx2 := hxb.2.2
        have hsn300 : sn ≤ 300 := by omega
        have hl1b := ht1b.2
        have hl2b := ht2b.2
        clear hokp hdpB hPS hosr hos3 hb3 hs hpl1 hbs hxb hnx hlen hbsB hstep hsl hL0 hoB ht1 ht2 ht1b ht2b hlL hl1 hl2 hm hhb hfar0 hrow hbr hpk hx2
        have HSP := Lib.hid (And.intro hsp1 hsp2)
        clear hsp1 hsp2
        have hal0 := alloc_below wr (.cells #[.int .i64 sk, .slice sA sn sc] 36)
        have q00 : (wr.alloc (.cells #[.int .i64 sk, .slice sA sn sc] 36)).cell? ⟨wr.heap.size, 0, none⟩ = some (.int .i64 sk) := by rw [cell_of_row _ _ _ _ _ _ (heap_alloc_new wr _)]; rfl
        have q01 : (wr.alloc (.cells #[.int .i64 sk, .slice sA sn sc] 36)).cell? ⟨wr.heap.size, 1, none⟩ = some (.slice sA sn sc) := by rw [cell_of_row _ _ _ _ _ _ (heap_alloc_new wr _)]; rfl
        have HQ := Lib.hid (And.intro hal0 (And.intro q00 q01))
        clear hal0 q00 q01
        go_wp2_with (first
          | (refine wpList_load_mid rfl 36 (.tmp 27) rfl b (off + k * 2) rfl [.int .i64 sk, .slice sA sn sc] _ hr Try.underlying36 rfl size_opt1 ?_)
          | (go_at_call 73
             with_reducible refine (HSP.out.1 _).mono ?_
             rintro e w4 ⟨v1, rfl, ho1, b1⟩
             obtain ⟨A1, c1', rfl, _, _⟩ := Bs.of_own ho1
             have hs4 : wr.heap.size < w4.heap.size := by have := b1.size; rw [alloc_size] at this; omega
             have q41 : w4.cell? ⟨wr.heap.size, 1, none⟩ = some (.slice sA sn sc) := (b1.cell (p := ⟨wr.heap.size, 1, none⟩) (by rw [alloc_size]; show wr.heap.size < _; omega)).trans HQ.out.2.2
             have H4 := Lib.hid (And.intro (HQ.out.1.trans (b1.mono HQ.out.1.size)) (And.intro ((Mid.of_own ho1).more (Nat.le_refl _) HQ.out.1.size) (And.intro ((b1.cell (p := ⟨wr.heap.size, 0, none⟩) (by rw [alloc_size]; show wr.heap.size < _; omega)).trans HQ.out.2.1) q41)))
             clear ho1 b1)
          | (go_at_call 73
             with_reducible refine (HSP.out.2 _).mono ?_
             rintro e w5 ⟨v2, rfl, ho2, b2⟩
             obtain ⟨A2, c2', rfl, _, _⟩ := Bs.of_own ho2
             have hs5 : wr.heap.size < w5.heap.size := by have := b2.size; omega
             have H5 : Hid (Seg w5 wr.heap.size w5.heap.size B A1 l1 L1 A2 l2 L2 sk sA sn sc l) := Lib.hid ⟨(H4.out.2.1.below b2 (Nat.le_refl _)).more b2.size (Nat.le_refl _), (Mid.of_own ho2).more (Nat.le_refl _) H4.out.1.size, HX.out.2.2.1.below' (H4.out.1.trans (b2.mono H4.out.1.size)) hBw, (b2.cell (p := ⟨wr.heap.size, 0, none⟩) hs4).trans H4.out.2.2.1, (b2.cell (p := ⟨wr.heap.size, 1, none⟩) hs4).trans H4.out.2.2.2, hs5, Nat.le_refl _, hBw⟩
             have hw5 : Below wr.heap.size wr w5 := H4.out.1.trans (b2.mono H4.out.1.size)
             have hal5 := alloc_below w5 (.cells #[.int .u8 (hb8.toNat : Int)] 5)
             have HR5 := Lib.hid (row_below (row_below HX.out.1 hw5) hal5)
             have HS5 := Lib.hid (H5.out.below hal5)
             have HW5 := Lib.hid (And.intro hw5 hal5)
             have HF5 : Hid (Far u6 wr.heap.size w5.heap.size) := Lib.hid (Far.more HX.out.1 (Nat.le_refl _))
             clear ho2 b2 q41 hw5 hal5)
          | (at_builtin
             refine wpList_append_bs_at _ rfl (.tmp 44) (.tmp 49) 22 rfl w3.heap.size 5 i0 Try.underlying22 hi0 hz0 hz1 hz2 _ lL _ rfl HR5.out (w5.heap.size + 1) (some ⟨w5.heap.size, 0, none⟩) 1 1 [hb8] rfl (Bs.lit_ w5 5 _ _ [hb8] rfl) (by omega) (by rw [alloc_size]; omega) ?_
             intro v6 w6 ho6 hg6 hat6
             have hs6 := hg6.size
             rw [alloc_size] at hs6
             have HR6 := Lib.hid ho6
             have HS6 := Lib.hid (HS5.out.grown HR5.out hB3 hg6 HF5.out)
             have HF6 := Lib.hid (HF5.out.next hat6 (by rw [alloc_size]; omega))
             have HW6 := Lib.hid hg6
             clear ho6 hg6 hat6)
          | (at_builtin
             refine wpList_append_bs_at _ rfl (.tmp 51) (.tmp 52) 22 rfl w3.heap.size 5 i0 Try.underlying22 hi0 hz0 hz1 hz2 _ (lL + 1) _ rfl HR6.out w5.heap.size A1 l1 _ L1 rfl HS6.out.m1.1 (by omega) (by omega) ?_
             intro v7 w7 ho7 hg7 hat7
             have hs7 := hg7.size
             have HR7 := Lib.hid ho7
             have HS7 := Lib.hid (HS6.out.grown HR6.out hB3 hg7 HF6.out)
             have HF7 := Lib.hid (HF6.out.next hat7 (by omega))
             have HW7 := Lib.hid hg7
             clear ho7 hg7 hat7)
          | (at_builtin
             refine wpList_append_bs_at _ rfl (.tmp 54) (.tmp 55) 22 rfl w3.heap.size 5 i0 Try.underlying22 hi0 hz0 hz1 hz2 _ (lL + 1 + l1) _ rfl HR7.out w5.heap.size A2 l2 _ L2 rfl HS7.out.m2.1 (by omega) (by omega) ?_
             intro v8 w8 ho8 hg8 hat8
             have hs8 := hg8.size
             have HR8 := Lib.hid ho8
             have HS8 := Lib.hid (HS7.out.grown HR7.out hB3 hg8 HF7.out)
             have HF8 := Lib.hid (HF7.out.next hat8 (by omega))
             have HW8 := Lib.hid hg8
             have q81 : w8.cell? ⟨wr.heap.size, 1, none⟩ = some (.slice sA sn sc) := HS8.out.c1
             clear ho8 hg8 hat8)
          | (at_builtin
             refine wpList_append_bs_at _ rfl (.tmp 57) (.tmp 59) 22 rfl w3.heap.size 5 i0 Try.underlying22 hi0 hz0 hz1 hz2 _ (lL + 1 + l1 + l2) _ rfl HR8.out B sA sn _ l rfl HS8.out.bs (by omega) (by omega) ?_
             intro v9 w9 ho9 hg9 hat9
             have HR9 := Lib.hid ho9
             have HS9 := Lib.hid (HS8.out.grown HR8.out hB3 hg9 HF8.out)
             have HW9 := Lib.hid hg9
             have q90 : w9.cell? ⟨wr.heap.size, 0, none⟩ = some (.int .i64 sk) := HS9.out.c0
             clear ho9 hg9 hat9))
        go_roundw
        case rel =>
          obtain ⟨hrow, hbr, hbsB, hstep, hoB, hlL, hl1, hl2, hhb, _⟩ := HX.out
          have hfin : wrF (PS.take (k + 1)) = (L0 ++ ([hb8] ++ (L1 ++ L2 ++ l)), sk) := by
            rw [hstep]; unfold wrStep; rw [hoB, hhb]; rfl
          have hb9 : Below w3.heap.size w3 w9 := by
            have b5 := hbr.trans ((HW5.out.1.trans (HW5.out.2.mono HW5.out.1.size)).mono hbr.size)
            have b6 := b5.grown HW6.out (by have := b5.size; omega) (own_ge HR5.out)
            have b7 := b6.grown HW7.out b6.size (own_ge HR6.out)
            have b8 := b7.grown HW8.out b7.size (own_ge HR7.out)
            exact b8.grown HW9.out b8.size (own_ge HR8.out)
          refine ⟨k + 1, by omega, by go_num, by rw [hfin], ?_, hb9⟩
          rw [hfin]
          have h9 := HR9.out
          have hlen : (L0 ++ ([hb8] ++ (L1 ++ L2 ++ l))).length = lL + 1 + l1 + l2 + sn := by
            have := hbsB.len
            simp only [List.length_append, List.length_cons, List.length_nil]
            omega
          rw [hlen]
          have hU : U8 (L0 ++ ([hb8] ++ (L1 ++ L2 ++ l))) = U8 L0 ++ U8 [hb8] ++ U8 L1 ++ U8 L2 ++ U8 l := by
            simp only [U8_append, List.append_assoc]
          rw [hU]
          exact h9
        case measure => simp [intOf]; omega
      · obtain rfl : k = n := by omega
        have hPl : PS.length = k := by rw [← HP.out.1.2.1.plen]
        rw [List.take_of_length_le (by omega)] at hrow
        obtain ⟨A6, c6, rfl, hc6, hb6⟩ := Bs.of_own hrow
        have HX := Lib.hid (And.intro hrow (And.intro hbr hb6))
        clear hrow hbr hb6
        go_wp2
        go_ret2
        unfold WrRet
        rw [HW.out.1, HP.out.2.2.2]
        exact ⟨A6, _, c6, rfl, ⟨hc6, row_cap HX.out.1⟩, rfl, HX.out.2.2, HP.out.1.2.2.trans (HX.out.2.1.mono HP.out.1.2.2.size)⟩
  · have hwr : wrO w vs = ([], er) := by unfold wrO; rw [her, if_neg he]
    rw [her] at hck
    have HW := Lib.hid hwr
    have hne : (er != 0) = true := bne_iff_ne.2 he
    clear hwr hos her he
    go_enter Try.func40, Try.ntmps40
    go_wp2_with (go_at_call 68; refine hck.mono ?_; rintro e w1 ⟨rfl, b1⟩)
    go_ret2
    unfold WrRet
    rw [HW.out]
    exact ⟨none, 0, 0, rfl, ⟨Nat.le_refl _, Nat.zero_le _⟩, rfl, Bs.empty _ _ _, b1⟩
end Go.Proofs.Ytfbddldcbjhmiaa
