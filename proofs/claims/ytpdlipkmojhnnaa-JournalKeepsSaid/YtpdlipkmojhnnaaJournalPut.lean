/-
  Put.
-/
import Derived.Test.YtpdlipkmojhnnaaJournalStore
namespace Go.Proofs.Ytpdlipkmojhnnaa
open Go.RowKit Go.Maps Go.Shelf
set_option maxRecDepth 100000
set_option maxRecDepth 100000 in
set_option maxHeartbeats 1000000 in
/-- The value laid into others' map: region by region, from the place where others is called. -/
theorem put_map (w2 : World) (lo b n0 : Nat) (D : DataW Value) (V : Int → Option (List UInt8)) (kn : Nat) (hkn : kn < 32) (A : Option Addr) (n : Nat) (l : List UInt8) (hb : Bs w2 w2.heap.size A n l) (hl : l.length ≤ 250) (hv : Vals w2 lo (some b) D V) (ho : w2.ownsMap Try.prog 3 hdr b n0 D) (hlo : lo ≤ w2.heap.size) (w3 w4 : World) (A' : Option Addr) (c' : Nat)
    (hown : w3.ownsRow w2.heap.size 5 1 (.slice A' n c') n (U8 l)) (hg : Below w2.heap.size w2 w3) (n1 : Nat) (ho4 : w4.ownsMap Try.prog 3 hdr b n1 (D.put (.int .i64 (kn : Int)) (.held (.slice A' n c')))) (hg4 : w3.grownBy w4 (some b)) :
    Vals w4 lo (some b) (D.put (.int .i64 (kn : Int)) (.held (.slice A' n c'))) (putV V (kn : Int) l) := by
  have hlen := hb.len
  subst hlen
  have ho3 : w3.ownsMap Try.prog 3 hdr b n0 D := by
    have hlt := ho.lt
    obtain ⟨es, clock, h1, h2⟩ := ho
    exact ⟨es, clock, (hg.block b hlt).trans h1, h2⟩
  obtain ⟨A2, c2, e, hcc, bm⟩ := Bs.of_own hown
  injection e with e1 e2 e3
  subst e1
  subst e3
  refine (hv.below hg).store ho3 (kn : Int) A' c' l ho4 hg4 bm hcc (fun a ha => ?_) (by omega) (by omega) hl
  rcases hown.2 with ⟨e, _⟩ | ⟨g, cap, cur, e, hbg, _⟩
  · rw [ha] at e; injection e with e1 e2 e3; cases e1
  · rw [ha] at e; injection e with e1 e2 e3; cases e1; exact Nat.le_trans hlo hbg
/-- What Put leaves. -/
def PutPost (W : World) (J : JP) (F : Fl) (s : JS) (key : Int) (l : List UInt8) (e : Ending) (w' : World) : Prop :=
  if jck F key ≠ 0 then e = .returned (.int .i64 (jck F key)) ∧ Below W.heap.size W w'
  else if 250 < l.length then e = .returned (.int .i64 2) ∧ Below W.heap.size W w'
  else if s.V key = some l then e = .returned (.int .i64 0) ∧ Below W.heap.size W w'
  else ∃ w1 b D', Below W.heap.size W w1 ∧ Vals w1 J.lo (some b) D' (putV (dropV s.V key) key l) ∧ TurnPost w1 J F s (some b) (putV (dropV s.V key) key l) (seals (UInt8.ofNat key.toNat :: UInt8.ofNat l.length :: l)) e w'
set_option maxRecDepth 100000 in
set_option maxHeartbeats 1000000 in
theorem put_new (W : World) (J : JP) (F : Fl) (s : JS) (h : JAt W J F s) (kn : Nat) (hkn : kn < 32) (A : Option Addr) (n c : Nat) (l : List UInt8) (hb : Bs W W.heap.size A n l) (hl : n ≤ 250) (hc : jck F (kn : Int) = 0) (hV : s.V (kn : Int) = none) :
    Calls Try.prog 9 #[.pointer (some ⟨J.jb, 0, none⟩), .int .i64 (kn : Int), .slice A n c] W fun e w' => ∃ w1 b D', Below W.heap.size W w1 ∧ Vals w1 J.lo (some b) D' (putV (dropV s.V (kn : Int)) (kn : Int) l) ∧ TurnPost w1 J F s (some b) (putV (dropV s.V (kn : Int)) (kn : Int) l) (seals (UInt8.ofNat kn :: UInt8.ofNat n :: l)) e w' := by
  obtain ⟨i0, hi0, hz0, hz1, hz2⟩ := info_parts info_u8
  have kc := jcheck_f W J F s h (kn : Int) (by omega) (by omega)
  rw [hc] at kc
  have hwf := key_wf (k := (kn : Int)) (by omega) (by omega)
  have HJ : Aside _ := h
  have HB : Aside _ := hb
  have hroom : Maps.size s.D ≤ 32 := by have := vals_size h.vals; have := keysOf_length s.V; omega
  have hml : (32 : Nat) < maxLen := by decide
  have kl : Aside (∀ w1, Below W.heap.size W w1 → w1.cell? ⟨J.jb, 6, none⟩ = some (.map s.pv) ∧ ∃ v, (Instr.lookup 57 (.map s.pv) (.int .i64 (kn : Int)) true).run Try.prog w1 = .ok (.tuple #[v, .bool false]) w1) := fun w1 hb => by
    have h' := HJ.out.below hb
    obtain ⟨v, hr, _⟩ := hdr_look h'.vals.src (kn : Int) hwf
    rw [h'.vals.has, hV] at hr
    exact ⟨h'.c6, v, hr⟩
  have ko : Aside (∀ w1, Below W.heap.size W w1 → Calls Try.prog 28 #[.pointer (some ⟨J.jb, 0, none⟩), .int .i64 (kn : Int)] w1 fun e w' => e = .returned (.map (some w1.heap.size)) ∧ w'.ownsMap Try.prog 3 hdr w1.heap.size (Maps.size s.D) (restOf s.D (kn : Int)) ∧ Below w1.heap.size w1 w') :=
    fun w1 hb => others_f J.jb s.pv s.D (kn : Int) w1 (HJ.out.below hb).c6 (HJ.out.below hb).vals.src hwf (by omega)
  clear h hc hb
  go_enter Try.func9, Try.ntmps9
  go_wp2_with fail
  refine kc.mono ?_
  rintro e w1 ⟨rfl, hb⟩
  have hB1 : Aside _ := hb
  obtain ⟨c6, v, hr⟩ := kl.out w1 hb
  clear hb
  go_wp2_with fail
  refine (ko.out w1 hB1.out).mono ?_
  rintro e w2 ⟨rfl, ho, hb2⟩
  have hB2 : Aside (Below W.heap.size W w2) := hB1.out.trans (hb2.mono hB1.out.size)
  have hv2 : Aside _ := Vals.rest (HJ.out.below hB1.out).vals (kn : Int) ho hb2 (HJ.out.below hB1.out).top
  have hlt2 := ho.lt
  have O2 : Aside _ := ho
  have hba : Aside (Bs w2 w2.heap.size A n l) := (HB.out.below hB2.out).lt
  have hown := World.ownsRow_lit (base := w2.heap.size) (e := 5) (size := 1) w2 #[] 0 (Nat.le_refl _) (by simp [maxLen]) rfl
  have HO := Lib.hid hown
  have htop : Aside (J.lo ≤ w2.heap.size) := (HJ.out.below hB2.out).top
  clear ho hb2 hown
  have hkeep : Aside (∀ w3, Below w2.heap.size w2 w3 → w3.ownsMap Try.prog 3 hdr w1.heap.size (Maps.size s.D) (restOf s.D (kn : Int))) := fun w3 hb => by
    obtain ⟨es, clock, e1, e2⟩ := O2.out
    exact ⟨es, clock, (hb.block _ hlt2).trans e1, e2⟩
  go_wp2_with (first
    | (at_builtin; refine wpList_append_bs _ rfl (.tmp 40) (.tmp 41) 35 rfl w2.heap.size 5 i0 Try.underlying35 hi0 hz0 hz1 hz2 _ 0 _ rfl HO.out w2.heap.size A n c l rfl (hba.out.alloc (Nat.le_refl _) _) (by omega) (by simp) ?_; intro v' w3 hown3 hgrow3; rw [Nat.zero_add, List.nil_append] at hown3; have B3 : Below w2.heap.size w2 w3 := ((Below.refl _ w2).alloc (Nat.le_refl _) _).grown hgrow3 (by simp) (own_ge HO.out); obtain ⟨A', c', hv', hcc, bm⟩ := Bs.of_own hown3; subst hv'; have ho3 := hkeep.out w3 B3; have HO3 : Aside _ := And.intro hown3 B3; clear hgrow3 bm hcc hown3 B3)
    | (at_mapUpdate; refine wpList_mapUpdate_own _ rfl _ _ _ 57 rfl 3 35 law3 Try.underlying57 hdr w1.heap.size _ _ rfl ho3 (by omega) _ _ _ rfl rfl (keyOf_int_mk Try.underlying3 hwf) _ [] rfl ?_; intro w4 ho4 hg4))
  have hv4 : Aside _ := put_map w2 J.lo w1.heap.size _ _ _ kn hkn A n l hba.out (by have := hba.out.len; omega) hv2.out O2.out htop.out w3 w4 A' c' HO3.out.1 HO3.out.2 _ ho4 hg4
  have hB4 : Aside (Below W.heap.size W w4) := (hB2.out.trans (HO3.out.2.mono hB2.out.size)).grown hg4 (Nat.le_trans hB2.out.size HO3.out.2.size) (fun j hj => by cases hj; exact hB1.out.size)
  have hb4 := (HB.out.below hB4.out).lt
  clear ho4 hg4 ho3 c6 hr hlt2
  go_wp2_with fail
  have kr := record_f w4 kn n A n c l hb4 (by omega)
  refine kr.mono ?_
  rintro e w5 hret
  obtain ⟨A5, N, c5, rfl, hNc, hN, hbs, hb5, hbase⟩ := hret.slice2
  have hB5 : Aside (Below W.heap.size W w5) := hB4.out.trans (hb5.mono hB4.out.size)
  have hv5 : Aside _ := hv4.out.below hb5
  have h5 := HJ.out.below hB5.out
  have hlb := HB.out.len
  have hN' : (N : Int) ≤ 262144 := by rw [hN]; unfold seals; simp [p32]; omega
  have hfl := (HJ.out.below hB4.out).fl.lt
  have kt := jturn_f w5 J F s h5 (some w1.heap.size) _ _ hv5.out A5 N c5 _ hbs (fun _ => ⟨fun a ha => by have := hbase a ha; omega, fun a ha => by have := hbase a ha; omega, fun a ha => by have := hbase a ha; omega⟩) hNc hN'
  clear kr hret hNc hN hbs hb5 hbase h5 hN' hfl hb4 hlb
  go_wp2_with fail
  refine kt.mono ?_
  intro e w' hp
  obtain ⟨ec, he⟩ := hp.returns
  subst he
  have HP : Aside _ := hp
  clear hp
  go_wp2
  go_ret
  exact ⟨w5, w1.heap.size, _, hB5.out, hv5.out, HP.out⟩
set_option maxRecDepth 100000 in
set_option maxHeartbeats 1000000 in
theorem put_other (W : World) (J : JP) (F : Fl) (s : JS) (h : JAt W J F s) (kn : Nat) (hkn : kn < 32) (A : Option Addr) (n c : Nat) (l : List UInt8) (hb : Bs W W.heap.size A n l) (hl : n ≤ 250) (hc : jck F (kn : Int) = 0) (l1 : List UInt8) (hV : s.V (kn : Int) = some l1) (hne : l1 ≠ l) :
    Calls Try.prog 9 #[.pointer (some ⟨J.jb, 0, none⟩), .int .i64 (kn : Int), .slice A n c] W fun e w' => ∃ w1 b D', Below W.heap.size W w1 ∧ Vals w1 J.lo (some b) D' (putV (dropV s.V (kn : Int)) (kn : Int) l) ∧ TurnPost w1 J F s (some b) (putV (dropV s.V (kn : Int)) (kn : Int) l) (seals (UInt8.ofNat kn :: UInt8.ofNat n :: l)) e w' := by
  obtain ⟨i0, hi0, hz0, hz1, hz2⟩ := info_parts info_u8
  have kc := jcheck_f W J F s h (kn : Int) (by omega) (by omega)
  rw [hc] at kc
  have hwf := key_wf (k := (kn : Int)) (by omega) (by omega)
  have HJ : Aside _ := h
  have HB : Aside _ := hb
  have hroom : Maps.size s.D ≤ 32 := by have := vals_size h.vals; have := keysOf_length s.V; omega
  have hml : (32 : Nat) < maxLen := by decide
  have kl : Aside (∀ w1, Below W.heap.size W w1 → w1.cell? ⟨J.jb, 6, none⟩ = some (.map s.pv) ∧ ∃ A1 c1, (Instr.lookup 57 (.map s.pv) (.int .i64 (kn : Int)) true).run Try.prog w1 = .ok (.tuple #[.slice A1 l1.length c1, .bool true]) w1 ∧ Bs w1 w1.heap.size A1 l1.length l1) := fun w1 hb => by
    have h' := HJ.out.below hb
    obtain ⟨v, hr, hat⟩ := hdr_look h'.vals.src (kn : Int) hwf
    obtain ⟨A1, c1, e1, e2, _, _⟩ := h'.vals.at_ _ l1 hV
    rw [h'.vals.has, hV] at hr
    rw [e1] at hat
    cases hat
    exact ⟨h'.c6, A1, c1, hr, e2⟩
  have ko : Aside (∀ w1, Below W.heap.size W w1 → Calls Try.prog 28 #[.pointer (some ⟨J.jb, 0, none⟩), .int .i64 (kn : Int)] w1 fun e w' => e = .returned (.map (some w1.heap.size)) ∧ w'.ownsMap Try.prog 3 hdr w1.heap.size (Maps.size s.D) (restOf s.D (kn : Int)) ∧ Below w1.heap.size w1 w') :=
    fun w1 hb => others_f J.jb s.pv s.D (kn : Int) w1 (HJ.out.below hb).c6 (HJ.out.below hb).vals.src hwf (by omega)
  clear h hc hb
  go_enter Try.func9, Try.ntmps9
  go_wp2_with fail
  refine kc.mono ?_
  rintro e w1 ⟨rfl, hb⟩
  have hB1 : Aside _ := hb
  obtain ⟨c6, A1, c1, hr, hbs1⟩ := kl.out w1 hb
  have ke := equal_f w1 A1 A l1.length n c1 c l1 l hbs1 (HB.out.below hb).lt
  rw [decide_eq_false hne] at ke
  clear hb hbs1
  go_wp2_with fail
  refine ke.mono ?_
  rintro e w' ⟨rfl, hw⟩
  obtain rfl := hw.symm
  clear ke hw
  go_wp2_with fail
  refine (ko.out w1 hB1.out).mono ?_
  rintro e w2 ⟨rfl, ho, hb2⟩
  have hB2 : Aside (Below W.heap.size W w2) := hB1.out.trans (hb2.mono hB1.out.size)
  have hv2 : Aside _ := Vals.rest (HJ.out.below hB1.out).vals (kn : Int) ho hb2 (HJ.out.below hB1.out).top
  have hlt2 := ho.lt
  have O2 : Aside _ := ho
  have hba : Aside (Bs w2 w2.heap.size A n l) := (HB.out.below hB2.out).lt
  have hown := World.ownsRow_lit (base := w2.heap.size) (e := 5) (size := 1) w2 #[] 0 (Nat.le_refl _) (by simp [maxLen]) rfl
  have HO := Lib.hid hown
  have htop : Aside (J.lo ≤ w2.heap.size) := (HJ.out.below hB2.out).top
  clear ho hb2 hown
  have hkeep : Aside (∀ w3, Below w2.heap.size w2 w3 → w3.ownsMap Try.prog 3 hdr w1.heap.size (Maps.size s.D) (restOf s.D (kn : Int))) := fun w3 hb => by
    obtain ⟨es, clock, e1, e2⟩ := O2.out
    exact ⟨es, clock, (hb.block _ hlt2).trans e1, e2⟩
  go_wp2_with (first
    | (at_builtin; refine wpList_append_bs _ rfl (.tmp 40) (.tmp 41) 35 rfl w2.heap.size 5 i0 Try.underlying35 hi0 hz0 hz1 hz2 _ 0 _ rfl HO.out w2.heap.size A n c l rfl (hba.out.alloc (Nat.le_refl _) _) (by omega) (by simp) ?_; intro v' w3 hown3 hgrow3; rw [Nat.zero_add, List.nil_append] at hown3; have B3 : Below w2.heap.size w2 w3 := ((Below.refl _ w2).alloc (Nat.le_refl _) _).grown hgrow3 (by simp) (own_ge HO.out); obtain ⟨A', c', hv', hcc, bm⟩ := Bs.of_own hown3; subst hv'; have ho3 := hkeep.out w3 B3; have HO3 : Aside _ := And.intro hown3 B3; clear hgrow3 bm hcc hown3 B3)
    | (at_mapUpdate; refine wpList_mapUpdate_own _ rfl _ _ _ 57 rfl 3 35 law3 Try.underlying57 hdr w1.heap.size _ _ rfl ho3 (by omega) _ _ _ rfl rfl (keyOf_int_mk Try.underlying3 hwf) _ [] rfl ?_; intro w4 ho4 hg4))
  have hv4 : Aside _ := put_map w2 J.lo w1.heap.size _ _ _ kn hkn A n l hba.out (by have := hba.out.len; omega) hv2.out O2.out htop.out w3 w4 A' c' HO3.out.1 HO3.out.2 _ ho4 hg4
  have hB4 : Aside (Below W.heap.size W w4) := (hB2.out.trans (HO3.out.2.mono hB2.out.size)).grown hg4 (Nat.le_trans hB2.out.size HO3.out.2.size) (fun j hj => by cases hj; exact hB1.out.size)
  have hb4 := (HB.out.below hB4.out).lt
  clear ho4 hg4 ho3 c6 hr hlt2
  go_wp2_with fail
  have kr := record_f w4 kn n A n c l hb4 (by omega)
  refine kr.mono ?_
  rintro e w5 hret
  obtain ⟨A5, N, c5, rfl, hNc, hN, hbs, hb5, hbase⟩ := hret.slice2
  have hB5 : Aside (Below W.heap.size W w5) := hB4.out.trans (hb5.mono hB4.out.size)
  have hv5 : Aside _ := hv4.out.below hb5
  have h5 := HJ.out.below hB5.out
  have hlb := HB.out.len
  have hN' : (N : Int) ≤ 262144 := by rw [hN]; unfold seals; simp [p32]; omega
  have hfl := (HJ.out.below hB4.out).fl.lt
  have kt := jturn_f w5 J F s h5 (some w1.heap.size) _ _ hv5.out A5 N c5 _ hbs (fun _ => ⟨fun a ha => by have := hbase a ha; omega, fun a ha => by have := hbase a ha; omega, fun a ha => by have := hbase a ha; omega⟩) hNc hN'
  clear kr hret hNc hN hbs hb5 hbase h5 hN' hfl hb4 hlb
  go_wp2_with fail
  refine kt.mono ?_
  intro e w' hp
  obtain ⟨ec, he⟩ := hp.returns
  subst he
  have HP : Aside _ := hp
  clear hp
  go_wp2
  go_ret
  exact ⟨w5, w1.heap.size, _, hB5.out, hv5.out, HP.out⟩
set_option maxRecDepth 100000 in
set_option maxHeartbeats 1000000 in
theorem put_same (W : World) (J : JP) (F : Fl) (s : JS) (h : JAt W J F s) (kn : Nat) (hkn : kn < 32) (A : Option Addr) (n c : Nat) (l : List UInt8) (hb : Bs W W.heap.size A n l) (hl : n ≤ 250) (hc : jck F (kn : Int) = 0) (hV : s.V (kn : Int) = some l) :
    Calls Try.prog 9 #[.pointer (some ⟨J.jb, 0, none⟩), .int .i64 (kn : Int), .slice A n c] W fun e w' => e = .returned (.int .i64 0) ∧ Below W.heap.size W w' := by
  obtain ⟨i0, hi0, hz0, hz1, hz2⟩ := info_parts info_u8
  have kc := jcheck_f W J F s h (kn : Int) (by omega) (by omega)
  rw [hc] at kc
  have hwf := key_wf (k := (kn : Int)) (by omega) (by omega)
  have HJ : Aside _ := h
  have HB : Aside _ := hb
  have hroom : Maps.size s.D ≤ 32 := by have := vals_size h.vals; have := keysOf_length s.V; omega
  have hml : (32 : Nat) < maxLen := by decide
  have kl : Aside (∀ w1, Below W.heap.size W w1 → w1.cell? ⟨J.jb, 6, none⟩ = some (.map s.pv) ∧ ∃ A1 c1, (Instr.lookup 57 (.map s.pv) (.int .i64 (kn : Int)) true).run Try.prog w1 = .ok (.tuple #[.slice A1 l.length c1, .bool true]) w1 ∧ Bs w1 w1.heap.size A1 l.length l) := fun w1 hb => by
    have h' := HJ.out.below hb
    obtain ⟨v, hr, hat⟩ := hdr_look h'.vals.src (kn : Int) hwf
    obtain ⟨A1, c1, e1, e2, _, _⟩ := h'.vals.at_ _ l hV
    rw [h'.vals.has, hV] at hr
    rw [e1] at hat
    cases hat
    exact ⟨h'.c6, A1, c1, hr, e2⟩
  clear h hc hb
  go_enter Try.func9, Try.ntmps9
  go_wp2_with fail
  refine kc.mono ?_
  rintro e w1 ⟨rfl, hb⟩
  obtain ⟨c6, A1, c1, hr, hbs1⟩ := kl.out w1 hb
  have ke := equal_f w1 A1 A l.length n c1 c l l hbs1 (HB.out.below hb).lt
  rw [decide_eq_true rfl] at ke
  clear hbs1
  go_wp2_with fail
  refine ke.mono ?_
  rintro e w' ⟨rfl, hw⟩
  obtain rfl := hw.symm
  go_wp2
  go_ret
  exact ⟨rfl, hb⟩
set_option maxRecDepth 100000 in
theorem put_long (W : World) (J : JP) (F : Fl) (s : JS) (h : JAt W J F s) (key : Int) (h1 : -9223372036854775808 ≤ key) (h2 : key ≤ 9223372036854775807) (A : Option Addr) (n c : Nat) (hl : 250 < n) (hc : jck F key = 0) :
    Calls Try.prog 9 #[.pointer (some ⟨J.jb, 0, none⟩), .int .i64 key, .slice A n c] W fun e w' => e = .returned (.int .i64 2) ∧ Below W.heap.size W w' := by
  have kc := jcheck_f W J F s h key h1 h2
  rw [hc] at kc
  clear h hc
  go_enter Try.func9, Try.ntmps9
  go_wp2_with fail
  refine kc.mono ?_
  rintro e w1 ⟨rfl, hb⟩
  go_wp2
  go_ret
  exact ⟨rfl, hb⟩
set_option maxRecDepth 100000 in
theorem put_bad (W : World) (J : JP) (F : Fl) (s : JS) (h : JAt W J F s) (key : Int) (h1 : -9223372036854775808 ≤ key) (h2 : key ≤ 9223372036854775807) (A : Option Addr) (n c : Nat) (hc : jck F key ≠ 0) :
    Calls Try.prog 9 #[.pointer (some ⟨J.jb, 0, none⟩), .int .i64 key, .slice A n c] W fun e w' => e = .returned (.int .i64 (jck F key)) ∧ Below W.heap.size W w' := by
  have kc := jcheck_f W J F s h key h1 h2
  have q0 : (jck F key != 0) = true := bne_iff_ne.2 hc
  clear h
  generalize jck F key = ec at *
  go_enter Try.func9, Try.ntmps9
  go_wp2_with fail
  refine kc.mono ?_
  rintro e w1 ⟨rfl, hb⟩
  go_wp2
  go_ret
  exact ⟨rfl, hb⟩
/-- Put. -/
theorem put_f (W : World) (J : JP) (F : Fl) (s : JS) (h : JAt W J F s) (key : Int) (h1 : -9223372036854775808 ≤ key) (h2 : key ≤ 9223372036854775807) (A : Option Addr) (n c : Nat) (l : List UInt8) (hb : Bs W W.heap.size A n l) :
    Calls Try.prog 9 #[.pointer (some ⟨J.jb, 0, none⟩), .int .i64 key, .slice A n c] W (PutPost W J F s key l) := by
  have hlen := hb.len
  unfold PutPost
  by_cases hc : jck F key = 0
  · simp only [hc, ne_eq, not_true_eq_false, if_false]
    have hk0 : 0 ≤ key ∧ key < 32 := by
      unfold jck at hc
      split at hc
      · omega
      · split at hc
        · omega
        · omega
    by_cases hl : 250 < l.length
    · simp only [if_pos hl]
      exact put_long W J F s h key h1 h2 A n c (by omega) hc
    · simp only [if_neg hl]
      obtain ⟨kn, rfl⟩ : ∃ kn : Nat, key = (kn : Int) := ⟨key.toNat, by omega⟩
      by_cases hV : s.V (kn : Int) = some l
      · simp only [if_pos hV]
        exact put_same W J F s h kn (by omega) A n c l hb (by omega) hc hV
      · simp only [if_neg hV]
        rw [hlen]
        cases hV1 : s.V (kn : Int) with
        | none => exact put_new W J F s h kn (by omega) A n c l hb (by omega) hc hV1
        | some l1 => exact put_other W J F s h kn (by omega) A n c l hb (by omega) hc l1 hV1 (fun e => hV (by rw [hV1, e]))
  · simp only [ne_eq, hc, not_false_eq_true, if_true]
    exact put_bad W J F s h key h1 h2 A n c hc
end Go.Proofs.Ytpdlipkmojhnnaa
