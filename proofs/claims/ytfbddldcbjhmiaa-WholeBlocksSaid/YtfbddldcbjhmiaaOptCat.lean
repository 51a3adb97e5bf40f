/-
  Options copied into new memory; slices of options one behind the other.
-/
import Derived.Test.YtfbddldcbjhmiaaOptRow
namespace Go.Proofs.Ytfbddldcbjhmiaa
open Go.RowKit
set_option maxRecDepth 100000
set_option linter.unusedVariables false
section
variable {P : Program} (w : World)
theorem step_append_svs {ops : Array Oper} {o : Oper} {a : Act} {K : Act → World → Prop} {Q : Exit → Act → World → Prop} {E : Prop} (hgd : o.guard = none) (s x : Operand) (t : TypeId)
    (ho : o.op = .call { callee := .builtin .append, args := #[s, x], argTypes := #[t, t] })
    (base : Nat) (e : TypeId) (i : TypeInfo) (z : Value) (ht : P.underlying t = some (.slice e)) (hi : P.info? e = some i) (hz : i.zero = some z)
    (hsize : i.size = 2) (hby : i.bytes = 32) (hzs : z.cells.size = 2) (v : Value) (n : Nat) (xs : List Sv) (hs : a.eval s = v) (hown : w.ownsRow base e 2 v n (svs xs))
    (B : Nat) (A : Option Addr) (m c : Nat) (l : List Sv) (hx : a.eval x = .slice A m c) (hb : Sh w B A m l) (hnm : n + m ≤ 1099511627776) (hbase : base ≤ w.heap.size)
    (h : ∀ v' w', w'.ownsRow base e 2 v' (n + m) (svs (xs ++ l)) → w.grownBy w' v.ownBlock → K (a.put o.dst v') w') :
    if Region.wanted o (yielded ops a.tmps) = true then Oper.wp P o a w K Q else E := by
  have hw : Region.wanted o (yielded ops a.tmps) = true := by simp [Region.wanted, hgd]
  rw [if_pos hw]
  exact wp_append_svs w s x t ho base e i z ht hi hz hsize hby hzs v n xs hs hown B A m c l hx hb hnm hbase h
end
theorem Sh.lit0 (w : World) (e : TypeId) (s : Sv) (fr : Nat × Nat) : Sh (w.alloc (.cells #[.int .i64 s.k, .slice s.A s.n s.c] e fr)) (w.heap.size + 1) (some ⟨w.heap.size, 0, none⟩) 1 [s] := Sh.lit_ w e _ fr s rfl
set_option maxHeartbeats 4000000 in
theorem copies_f (A : Option Addr) (n c : Nat) (vs : List Sv) (ps : List (Int × List UInt8)) (w : World) (B : Nat) (hos : Os w B A n vs ps) (hB : B ≤ w.heap.size) (hn : n ≤ 1048576) (hmx : ∀ s ∈ vs, s.n ≤ 1048576) :
    Calls Try.prog 37 #[.slice A n c] w (RetOpts ps w) := by
  obtain ⟨i0, z0, hi0, hz0, hz1, hz2, hz3⟩ := info_opt
  have hni : (n : Int) ≤ 1048576 := by omega
  have HO : Aside _ := And.intro hos (And.intro hmx (And.intro hos.plen hB))
  clear hos hmx
  go_enter Try.func37, Try.ntmps37
  go_wp2_with (refine wpList_make_own _ rfl _ (.tmp 7) 33 rfl w.heap.size 36 i0 z0 2 Try.underlying33 hi0 hz0 hz2 .i64 .i64 (n : Int) n rfl rfl rfl (by rw [hz3]; omega) (by simp only [maxLen]; omega) (Nat.le_refl _) ?_; intro w1 hown1 hgrow1; have HR : Aside _ := And.intro hown1 ((Below.refl w.heap.size w).grown hgrow1 (Nat.le_refl _) (fun g e => by cases e)); clear hown1 hgrow1)
  go_loopw [3, 5, 11] (fun v _ i wr => ∃ (k : Nat) (us : List Sv), k ≤ n ∧ i = .int .i64 k ∧ wr.ownsRow w.heap.size 36 2 v k (svs us) ∧ Mx wr w.heap.size us (ps.take k) ∧ Below w.heap.size w wr) (fun _ _ i _ => n - (intOf i).toNat)
  case atStart => exact ⟨0, [], by omega, rfl, HR.out.1, Mx.nil _ _, HR.out.2⟩
  case round =>
    obtain ⟨k, us, hk, rfl, hrow, hmxr, hbr⟩ := hrel
    by_cases hlt : k < n
    · obtain ⟨hos, hmx, hpl, _⟩ := HO.out
      have hosr := hos.below' hbr hB
      obtain ⟨b, off, rfl, hb, _⟩ := hosr.sh.place (by omega)
      obtain ⟨s, hs⟩ := sv_get hosr.sh hlt
      obtain ⟨l, hpl1, hbs⟩ := hosr.get hs
      have hr := hosr.sh.range hs
      have hsn := hmx s (List.mem_of_getElem? hs)
      have hsl := hbs.len
      have hBr : B ≤ wr.heap.size := Nat.le_trans hB hbr.size
      have H1 : Aside _ := And.intro hrow (And.intro hmxr (And.intro hbr (And.intro hbs (And.intro hpl1 (And.intro hsn (And.intro hBr hsl))))))
      clear hos hmx hpl hosr hs hpl1 hbs hrow hmxr hbr hsn hBr hsl
      obtain ⟨sk, sA, sn, sc⟩ := s
      dsimp only at H1 hr
      go_wp2_with (refine wpList_load_mid rfl 36 (.tmp 13) rfl b (off + k * 2) rfl [.int .i64 sk, .slice sA sn sc] _ hr Try.underlying36 rfl size_opt1 ?_)
      refine wp_at_world (F := fun W4 => Below wr.heap.size wr W4 ∧ wr.heap.size < W4.heap.size ∧ W4.cell? ⟨wr.heap.size, 0, none⟩ = some (.int .i64 sk) ∧ W4.cell? ⟨wr.heap.size, 1, none⟩ = some (.slice sA sn sc)) ⟨alloc_below wr _, by rw [alloc_size]; omega, by rw [cell_of_row _ _ _ _ _ _ (heap_alloc_new wr _)]; rfl, by rw [cell_of_row _ _ _ _ _ _ (heap_alloc_new wr _)]; rfl⟩ fun W4 ⟨b4, l4, c0, c1⟩ => ?_
      have H4 : Aside _ := And.intro b4 l4
      generalize hgx : wr.heap.size = gx at *
      have Hgx := Lib.hid hgx
      clear hgx b4 l4
      go_region_held3 (fun W => W.cell? ⟨gx, 0, none⟩ = some (.int .i64 sk) ∧ W.cell? ⟨gx, 1, none⟩ = some (.slice sA sn sc))
        (first | assumption | exact ⟨c0, c1⟩ | exact qa5 _)
        ((first
          | (go_at_call 31
             go_loud (refine (bclone_f sA sn sc l W4.drew _ ((H1.out.2.2.2.1.below (H4.out.1.mono (by have := H1.out.2.2.2.2.2.2.1; have := Hgx.out; omega))).drew) (by have := H1.out.2.2.2.2.2.2.1; have := H4.out.2; have := Hgx.out; show B ≤ W4.heap.size; omega) (by have := H1.out.2.2.2.2.2.1; omega)).mono ?_)
             rintro e w5 ⟨u5, rfl, ho5, b5⟩
             have q5 : w5.cell? ⟨gx, 0, none⟩ = some (.int .i64 sk) ∧ w5.cell? ⟨gx, 1, none⟩ = some (.slice sA sn sc) := ⟨(b5.cell (p := ⟨gx, 0, none⟩) H4.out.2).trans c0, (b5.cell (p := ⟨gx, 1, none⟩) H4.out.2).trans c1⟩
             obtain ⟨A5, c5, rfl, _, _⟩ := Bs.of_own ho5
             have qa5 : ∀ o, (w5.alloc o).cell? ⟨gx, 0, none⟩ = some (.int .i64 sk) ∧ (w5.alloc o).cell? ⟨gx, 1, none⟩ = some (.slice sA sn sc) := fun o => by
               have e : W4.drew.heap.size = W4.heap.size := rfl
               have hl : gx < w5.heap.size := by have := H4.out.2; have := b5.size; omega
               exact ⟨(World.cell?_alloc_lt w5 o ⟨gx, 0, none⟩ hl).trans q5.1, (World.cell?_alloc_lt w5 o ⟨gx, 1, none⟩ hl).trans q5.2⟩
             have H5 : Aside _ := And.intro ho5 (And.intro b5 trivial)
             clear ho5 b5)
          | (refine step_append_svs _ (by rfl) (.tmp 15) (.tmp 22) 33 (by rfl) w.heap.size 36 i0 z0 Try.underlying33 hi0 hz0 hz2 hz3 hz1 _ k us (by rfl) ((row_below (row_below H1.out.1 (by rw [Hgx.out]; exact H4.out.1.drew)) H5.out.2.1).alloc _) (w5.heap.size + 1) (some ⟨w5.heap.size, 0, none⟩) 1 1 [⟨sk, A5, l.length, c5⟩] (by rfl) (Sh.lit0 w5 _ ⟨sk, A5, l.length, c5⟩ _) (by omega) (by rw [alloc_size]; have := H1.out.2.2.1.size; have := H4.out.2; have := H5.out.2.1.size; have := Hgx.out; have e : W4.drew.heap.size = W4.heap.size := rfl; omega) ?_
             intro v6 w6 ho6 hg6
             have q6 : w6.cell? ⟨gx, 0, none⟩ = some (.int .i64 sk) ∧ w6.cell? ⟨gx, 1, none⟩ = some (.slice sA sn sc) := by
               have hne : some gx ≠ u3.ownBlock := fun e => by
                 have h1 := (H1.out.1.lt gx e.symm).2
                 have h2 := Hgx.out
                 omega
               have hl : ∀ o, gx < (w5.alloc o).heap.size := fun o => by
                 have e : W4.drew.heap.size = W4.heap.size := rfl
                 rw [alloc_size]; have := H4.out.2; have := H5.out.2.1.size; omega
               exact ⟨(hg6.cell_far ⟨gx, 0, none⟩ (hl _) hne).trans (qa5 _).1, (hg6.cell_far ⟨gx, 1, none⟩ (hl _) hne).trans (qa5 _).2⟩)
          | fail))
      have HX : Aside (w6.ownsRow w.heap.size 36 2 v6 (k + 1) (svs (us ++ [⟨sk, A5, l.length, c5⟩])) ∧ Mx w6 w.heap.size (us ++ [⟨sk, A5, l.length, c5⟩]) (ps.take (k + 1)) ∧ Below w.heap.size w w6) := by
        obtain ⟨hrow, hmxr, hbr, hbs, hpl1, hsn, hBr, hsl⟩ := H1.out
        obtain ⟨ho5, b5, _⟩ := H5.out
        have hsz := hbr.size
        have h4 := H4.out.1
        rw [← Hgx.out] at h4
        have hw5 : Below wr.heap.size wr w5 := (h4.drew).trans (b5.mono h4.size)
        refine ⟨ho6, ?_, ?_⟩
        · have hp : ps.take (k + 1) = ps.take k ++ [(sk, l)] := by rw [List.take_add_one, hpl1]; rfl
          rw [hp]
          have m1 := hmxr.below (hw5.alloc hw5.size (.cells #[.int .i64 sk, .slice A5 l.length c5] 36)) hsz
          have i1 : InS (w5.alloc (.cells #[.int .i64 sk, .slice A5 l.length c5] 36)) w.heap.size ⟨sk, A5, l.length, c5⟩ l := (InS.of_own (row_mono ho5 (Nat.le_trans hsz h4.size))).below (alloc_below w5 _) (Nat.le_trans hsz hw5.size)
          exact (m1.push (x := (sk, l)) rfl i1).grown (row_below hrow (hw5.alloc hw5.size _)) hg6 (by rw [alloc_size]; have := hw5.size; omega)
        · exact (hbr.trans ((hw5.alloc hw5.size _).mono hsz)).grown hg6 (by rw [alloc_size]; have := hw5.size; omega) (own_ge hrow)
      clear ho6 hg6 q6 qa5 q5 c0 c1 hr
      go_wp2
      go_roundw
      case rel => exact ⟨k + 1, _, by omega, by go_num, HX.out.1, HX.out.2.1, HX.out.2.2⟩
      case measure => simp [intOf]; omega
    · obtain rfl : k = n := by omega
      have HX : Aside _ := And.intro hrow (And.intro hmxr hbr)
      clear hrow hmxr hbr
      go_wp2
      go_ret
      obtain ⟨hrow, hmxr, hbr⟩ := HX.out
      have hpl := HO.out.2.2.1
      rw [List.take_of_length_le (by omega)] at hmxr
      exact ⟨_, us, rfl, by rw [hpl]; exact hrow, hmxr, hbr⟩
/-- A slice of slices of options. -/
structure Sq where
  A : Option Addr
  n : Nat
  c : Nat
  vs : List Sv
structure Ss (w : World) (B : Nat) (A : Option Addr) (m : Nat) (L : List Sq) : Prop where
  len : L.length = m
  place : 0 < m → ∃ b off, A = some ⟨b, off, none⟩ ∧ b < B ∧ ∀ (i : Nat) (q : Sq), L[i]? = some q → w.cell? ⟨b, off + i, none⟩ = some (.slice q.A q.n q.c) ∧ Sh w B q.A q.n q.vs
theorem Ss.below' {w w' : World} {B B' m : Nat} {A : Option Addr} {L : List Sq} (h : Ss w B A m L) (hb : Below B' w w') (hB : B ≤ B') : Ss w' B A m L :=
  ⟨h.len, fun hn => by
    obtain ⟨b, off, e, hbb, hc⟩ := h.place hn
    exact ⟨b, off, e, hbb, fun i s hs => ⟨(hb.cell (p := ⟨b, off + i, none⟩) (Nat.lt_of_lt_of_le hbb hB)).trans (hc i s hs).1, (hc i s hs).2.below' hb hB⟩⟩⟩
def cat (L : List Sq) : List Sv := L.flatMap (·.vs)
theorem cat_take {L : List Sq} {k : Nat} {q : Sq} (h : L[k]? = some q) : cat (L.take (k + 1)) = cat (L.take k) ++ q.vs := by
  unfold cat
  rw [List.take_add_one, h, List.flatMap_append]; simp
theorem cat_le {L : List Sq} {k : Nat} : (cat (L.take k)).length ≤ (cat L).length := by
  have h : cat L = cat (L.take k) ++ cat (L.drop k) := by unfold cat; rw [← List.flatMap_append, List.take_append_drop]
  rw [h, List.length_append]; omega
set_option maxHeartbeats 4000000 in
theorem concat_f (A : Option Addr) (m c : Nat) (L : List Sq) (w : World) (B : Nat) (h : Ss w B A m L) (hB : B ≤ w.heap.size) (hm : (m : Int) ≤ 1000) (hc : (cat L).length ≤ 1048576) :
    Calls Try.prog 38 #[.slice A m c] w fun e w' => ∃ v, e = .returned v ∧ w'.ownsRow w.heap.size 36 2 v (cat L).length (svs (cat L)) ∧ Below w.heap.size w w' := by
  obtain ⟨i0, z0, hi0, hz0, hz1, hz2, hz3⟩ := info_opt
  have HL : Aside _ := And.intro h (And.intro h.len hc)
  clear h hc
  go_enter Try.func38, Try.ntmps38
  go_wp2
  go_loop [3, 5, 11] (fun s _ i => ∃ k : Nat, k ≤ m ∧ i = .int .i64 k ∧ s = .int .i64 ((cat (L.take k)).length : Int)) (fun _ _ i => m - (intOf i).toNat)
  case atStart => exact ⟨0, by omega, rfl, rfl⟩
  case round =>
    obtain ⟨k, hk, rfl, rfl⟩ := hrel
    by_cases hlt : k < m
    · obtain ⟨b, off, rfl, hb, hcell⟩ := HL.out.1.place (by omega)
      obtain ⟨q, hq⟩ : ∃ q, L[k]? = some q := ⟨_, List.getElem?_eq_getElem (by have := HL.out.2.1; omega)⟩
      obtain ⟨c0, hsh⟩ := hcell k q hq
      have ht := cat_take hq
      have hle := cat_le (L := L) (k := k + 1)
      have hln := hsh.len
      have hml := HL.out.2.2
      have hl2 : ((cat (L.take (k + 1))).length : Int) = (cat (L.take k)).length + q.n := by rw [ht, List.length_append, hln]; omega
      have hl3 : (cat (L.take k)).length + q.n ≤ 1048576 := by rw [ht, List.length_append, hln] at hle; omega
      have HT : Aside _ := hl2
      obtain ⟨qA, qn, qc, qv⟩ := q
      dsimp only at c0 hl3 HT
      generalize (cat (L.take k)).length = tk at *
      clear hcell hsh ht hle hln hml hl2 hq
      go_wp2
      go_round
      case rel => exact ⟨k + 1, by omega, by go_num, by rw [HT.out]⟩
      case measure => simp [intOf]; omega
    · obtain rfl : k = m := by omega
      have hfull : L.take k = L := List.take_of_length_le (by have := HL.out.2.1; omega)
      rw [hfull]
      obtain ⟨N, hN⟩ : ∃ N, (cat L).length = N := ⟨_, rfl⟩
      have HN := Lib.hid hN
      have hNi : (N : Int) ≤ 1048576 := by have := HL.out.2.2; omega
      rw [hN]
      clear hfull hN
      have hg := grow_f N w (by omega)
      go_wp2_with (go_at_call 67; refine hg.mono ?_; rintro e w1 ⟨v1, rfl, ho1, b1⟩; have H1 : Aside _ := And.intro ho1 b1; clear ho1 b1)
      go_loopw [6, 8, 27] (fun v _ i wr => ∃ j : Nat, j ≤ k ∧ i = .int .i64 j ∧ wr.ownsRow w.heap.size 36 2 v (cat (L.take j)).length (svs (cat (L.take j))) ∧ Below w.heap.size w wr) (fun _ _ i _ => k - (intOf i).toNat)
      case atStart => exact ⟨0, by omega, rfl, H1.out.1, H1.out.2⟩
      case round =>
        obtain ⟨j, hj, rfl, hrow, hbr⟩ := hrel
        by_cases hlt2 : j < k
        · obtain ⟨b, off, rfl, hb, hcell⟩ := (HL.out.1.below' hbr hB).place (by omega)
          obtain ⟨q, hq⟩ : ∃ q, L[j]? = some q := ⟨_, List.getElem?_eq_getElem (by have := HL.out.2.1; omega)⟩
          obtain ⟨c0, hsh⟩ := hcell j q hq
          have ht := cat_take hq
          have hle := cat_le (L := L) (k := j + 1)
          have hln := hsh.len
          have hml := HL.out.2.2
          have hl2 : (cat (L.take (j + 1))).length = (cat (L.take j)).length + q.n := by rw [ht, List.length_append, hln]
          have hl3 : (cat (L.take j)).length + q.n ≤ 1048576 := by omega
          have HT : Aside _ := And.intro hl2 ht
          have HX : Aside _ := And.intro hrow (And.intro hsh hbr)
          have hsz := hbr.size
          obtain ⟨qA, qn, qc, qv⟩ := q
          dsimp only at c0 hl3 HT HX
          generalize htk : (cat (L.take j)).length = tk at *
          clear hcell hsh ht hle hln hml hl2 hq hrow hbr htk
          go_wp2_with (at_builtin; refine wpList_append_svs _ rfl (.tmp 31) (.tmp 32) 33 rfl w.heap.size 36 i0 z0 Try.underlying33 hi0 hz0 hz2 hz3 hz1 _ tk (cat (L.take j)) rfl HX.out.1 _ qA qn qc qv rfl HX.out.2.1 (by omega) hsz ?_; intro v' w2 hown2 hgrow; have HY : Aside _ := And.intro hown2 (HX.out.2.2.grown hgrow hsz (own_ge HX.out.1)); clear hown2 hgrow)
          go_roundw
          case rel => exact ⟨j + 1, by omega, by go_num, by rw [HT.out.1, HT.out.2]; exact HY.out.1, HY.out.2⟩
          case measure => simp [intOf]; omega
        · obtain rfl : j = k := by omega
          have hfull : L.take j = L := List.take_of_length_le (by have := HL.out.2.1; omega)
          rw [hfull] at hrow
          have HX : Aside _ := And.intro hrow hbr
          clear hrow hbr hfull
          go_wp2
          go_ret
          exact ⟨_, rfl, HX.out.1, HX.out.2⟩
end Go.Proofs.Ytfbddldcbjhmiaa
