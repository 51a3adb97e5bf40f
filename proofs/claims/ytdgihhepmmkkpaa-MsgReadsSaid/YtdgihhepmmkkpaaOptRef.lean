/-
  The document's reading of options; the same options.
-/
import Derived.Test.YtdgihhepmmkkpaaOptRead
import Derived.Deep.RegionHeld
namespace Go.Proofs.Ytdgihhepmmkkpaa
open Go.RowKit
set_option maxRecDepth 100000
set_option linter.unusedVariables false
theorem below_drew2 (w : World) : Below w.heap.size w w.drew := Below.drew (Below.refl _ _)
set_option maxHeartbeats 4000000 in
theorem osame_yes (w : World) (A1 A2 : Option Addr) (n c1 c2 : Nat) (us1 us2 : List Sv) (ps : List (Int × List UInt8)) (h1 : Os w w.heap.size A1 n us1 ps) (h2 : Os w w.heap.size A2 n us2 ps) (hn : (n : Int) ≤ 1099511627776) (hl : ∀ x, x ∈ ps → x.2.length ≤ 1099511627776) :
    Calls Try.prog 42 #[.slice A1 n c1, .slice A2 n c2] w fun e w' => e = .returned (.bool true) ∧ Below w.heap.size w w' := by
  go_enter Try.func42, Try.ntmps42
  go_wp2
  go_loopw [5] (fun i wr => ∃ k : Nat, k ≤ n ∧ i = .int .i64 k ∧ Below w.heap.size w wr) (fun i _ => n - (intOf i).toNat)
  case atStart => exact ⟨0, by omega, rfl, Below.refl _ _⟩
  case round =>
    obtain ⟨k, hk, rfl, hB⟩ := hrel
    by_cases hlt : k < n
    · obtain ⟨b1, off1, rfl, hb1, hc1⟩ := h1.sh.place (by omega)
      obtain ⟨b2, off2, rfl, hb2, hc2⟩ := h2.sh.place (by omega)
      obtain ⟨s1, hs1⟩ := sv_get h1.sh hlt
      obtain ⟨s2, hs2⟩ := sv_get h2.sh hlt
      obtain ⟨l, hp1, z1⟩ := h1.get hs1
      obtain ⟨l', hp2, z2⟩ := h2.get hs2
      obtain ⟨x1, y1⟩ := hc1 k s1 hs1
      obtain ⟨x2, y2⟩ := hc2 k s2 hs2
      have hlx := hl _ (List.mem_of_getElem? hp1)
      rw [hp1] at hp2
      have he := Option.some.inj hp2
      injection he with he1 he2
      subst he2
      have hn1 := z1.len
      have hn2 := z2.len
      obtain ⟨k1, P1, n1, d1⟩ := s1
      obtain ⟨k2, P2, n2, d2⟩ := s2
      dsimp only at x1 y1 z1 x2 y2 z2 hn1 hn2 he1 hlx
      subst he1 hn1 hn2
      have m1 : ∀ wq, Below w.heap.size w wq → wq.cell? ⟨b1, off1 + k * 2, none⟩ = some (.int .i64 k1) ∧ wq.cell? ⟨b1, off1 + k * 2 + 1, none⟩ = some (.slice P1 l.length d1) := fun wq hq =>
        ⟨(hq.cell (p := ⟨b1, off1 + k * 2, none⟩) hb1).trans x1, (hq.cell (p := ⟨b1, off1 + k * 2 + 1, none⟩) hb1).trans y1⟩
      have m2 : ∀ wq, Below w.heap.size w wq → wq.cell? ⟨b2, off2 + k * 2, none⟩ = some (.int .i64 k1) ∧ wq.cell? ⟨b2, off2 + k * 2 + 1, none⟩ = some (.slice P2 l.length d2) := fun wq hq =>
        ⟨(hq.cell (p := ⟨b2, off2 + k * 2, none⟩) hb2).trans x2, (hq.cell (p := ⟨b2, off2 + k * 2 + 1, none⟩) hb2).trans y2⟩
      have hbd : Below w.heap.size w wr.drew := hB.trans ((below_drew2 wr).mono hB.size)
      have ks : ∀ wq, Below w.heap.size w wq → Calls Try.prog 21 #[.slice P1 l.length d1, .slice P2 l.length d2] wq fun e w' => e = .returned (.bool true) ∧ ∃ m, w' = wq.drewN m := fun wq hq => by
        have := same_any P1 P2 l.length d1 l.length d2 l l wq _ _ (z1.below hq) (z2.below hq) (by omega) (by omega)
        rwa [decide_eq_true rfl] at this
      have M1 : Aside _ := m1
      have M2 : Aside _ := m2
      have KS : Aside _ := ks
      have HBW : Aside _ := hB
      obtain ⟨a1, a2⟩ := m1 wr hB
      obtain ⟨a3, a4⟩ := m2 wr hB
      obtain ⟨c1', c2'⟩ := m1 wr.drew hbd
      obtain ⟨c3', c4'⟩ := m2 wr.drew hbd
      generalize l.length = lx at *
      clear hc1 hc2 x1 y1 z1 x2 y2 z2 hp1 hp2 m1 m2 ks hbd hs1 hs2
      go_wp2_with fail
      have hkn : (k : Int) < n := by omega
      have hk0 : (0 : Int) ≤ (k : Int) := by omega
      have ktn : ((k : Int)).toNat = k := by omega
      have keq : (k1 != k1) = false := bne_self_eq_false _
      go_region_held (fun wq => (wq.cell? ⟨b1, off1 + k * 2, none⟩ = some (.int .i64 k1) ∧ wq.cell? ⟨b1, off1 + k * 2 + 1, none⟩ = some (.slice P1 lx d1)) ∧ (wq.cell? ⟨b2, off2 + k * 2, none⟩ = some (.int .i64 k1) ∧ wq.cell? ⟨b2, off2 + k * 2 + 1, none⟩ = some (.slice P2 lx d2)))
        (first | assumption | exact ⟨⟨c1', c2'⟩, ⟨c3', c4'⟩⟩)
        ((go_at_call 21; refine (KS.out _ (HBW.out.trans ((below_drew2 wr).mono HBW.out.size))).mono ?_; rintro e w5 ⟨rfl, m5, hw5⟩; have b5 : Below wr.drew.heap.size wr.drew w5 := hw5 ▸ drewN_below _ _ m5; have q5 := And.intro (M1.out w5 ((HBW.out.trans ((below_drew2 wr).mono HBW.out.size)).trans (b5.mono HBW.out.size))) (M2.out w5 ((HBW.out.trans ((below_drew2 wr).mono HBW.out.size)).trans (b5.mono HBW.out.size)))))
      all_goals
        have hB5 : Aside (Below w.heap.size w w5) := (HBW.out.trans ((below_drew2 wr).mono HBW.out.size)).trans (b5.mono HBW.out.size)
        clear q5 b5 hw5 a1 a2 a3 a4 c1' c2' c3' c4'
        go_wp2
        go_roundw
        case rel => exact ⟨k + 1, by omega, by go_num, HBW.out.trans ((drewN_below wr _ _).mono HBW.out.size)⟩
        case measure => simp [intOf]; omega
    · go_wp2
      go_ret
      exact ⟨rfl, hB⟩
def NumPost (f : Nat) (a : Int) (l : List UInt8) (w : World) (e : Ending) (w' : World) : Prop :=
  (∃ m, w' = w.drewN m) ∧ match jn f l with
    | some (v, k) => e = .returned (.tuple #[.int .i64 (v : Int), .int .i64 (a + k), .bool true])
    | none => e = .returned (.tuple #[.int .i64 0, .int .i64 a, .bool false])
theorem ret_31 {a b c a' b' : Value} (h : a = a') (h' : b = b') : Ending.returned (.tuple #[a, b, c]) = .returned (.tuple #[a', b', c]) := by rw [h, h']
set_option maxHeartbeats 4000000 in
theorem num_f (f : Nat) (hf : f ≤ 14) (A : Option Addr) (n c : Nat) (l : List UInt8) (w : World) (B : Nat) (hbs : Bs w B A n l) (hnI : (n : Int) ≤ 140737488355328) (a : Int) (at_ : Nat) (ha : a = at_) (hat : at_ ≤ n) :
    Calls Try.prog 62 #[.slice A n c, .int .i64 a, .int .i64 f] w (NumPost f a (l.drop at_) w) := by
  subst ha
  have hln := hbs.len
  have hatI : (at_ : Int) ≤ n := by omega
  by_cases h13 : f < 13
  · have hj : jn f (l.drop at_) = some (f, 0) := by unfold jn; rw [if_pos h13]
    have HB := Lib.hid hj
    have hfI : (f : Int) < 13 := by omega
    clear hbs hj hln
    go_enter Try.func62, Try.ntmps62
    go_wp2
    go_ret3
    refine ⟨⟨0, rfl⟩, ?_⟩
    rw [HB.out]
    exact ret_31 rfl (int_eq (by simp))
  · have hfI : ¬ (f : Int) < 13 := by omega
    by_cases e13 : f = 13
    · subst e13
      by_cases hlt : at_ < n
      · obtain ⟨u, hu⟩ := byte_get (l := l) (k := at_) (by omega)
        have hj : jn 13 (l.drop at_) = some (13 + u.toNat, 1) := by rw [drop_one hu]; rfl
        obtain ⟨b, off, rfl, hb, hcell⟩ := hbs.place (by omega)
        have c0 : w.cell? ⟨b, off + at_, none⟩ = some (.int .u8 (u.toNat : Int)) := hcell at_ u hu
        have hub := byte_lt u
        have hu0 : (0 : Int) ≤ (u.toNat : Int) := by omega
        obtain ⟨x, hx⟩ : ∃ x : Int, (u.toNat : Int) = x := ⟨_, rfl⟩
        rw [hx] at c0 hub hu0
        have HB := Lib.hid (And.intro hj hx)
        have hltI : (at_ : Int) < n := by omega
        clear hbs hj hln hcell hx hu
        go_enter Try.func62, Try.ntmps62
        go_wp2
        go_ret3
        refine ⟨⟨0, rfl⟩, ?_⟩
        rw [HB.out.1]
        exact ret_31 (int_eq (by have := HB.out.2; omega)) (int_eq (by omega))
      · have hj : jn 13 (l.drop at_) = none := by rw [List.drop_eq_nil_of_le (by omega)]; rfl
        have HB := Lib.hid hj
        have hltI : (n : Int) ≤ at_ := by omega
        clear hbs hj hln
        go_enter Try.func62, Try.ntmps62
        go_wp2
        go_ret3
        refine ⟨⟨0, rfl⟩, ?_⟩
        rw [HB.out]
        exact rfl
    · obtain rfl : f = 14 := by omega
      by_cases hlt : at_ + 1 < n
      · obtain ⟨u, hu⟩ := byte_get (l := l) (k := at_) (by omega)
        obtain ⟨v, hv⟩ := byte_get (l := l) (k := at_ + 1) (by omega)
        have hj : jn 14 (l.drop at_) = some (269 + u.toNat * 256 + v.toNat, 2) := by rw [drop_one hu, drop_one hv]; rfl
        obtain ⟨b, off, rfl, hb, hcell⟩ := hbs.place (by omega)
        have c0 : w.cell? ⟨b, off + at_, none⟩ = some (.int .u8 (u.toNat : Int)) := hcell at_ u hu
        have c1 : w.cell? ⟨b, off + (at_ + 1), none⟩ = some (.int .u8 (v.toNat : Int)) := hcell (at_ + 1) v hv
        have hub := byte_lt u
        have hu0 : (0 : Int) ≤ (u.toNat : Int) := by omega
        have hvb := byte_lt v
        have hv0 : (0 : Int) ≤ (v.toNat : Int) := by omega
        obtain ⟨x, hx⟩ : ∃ x : Int, (u.toNat : Int) = x := ⟨_, rfl⟩
        obtain ⟨y, hy⟩ : ∃ y : Int, (v.toNat : Int) = y := ⟨_, rfl⟩
        rw [hx] at c0 hub hu0
        rw [hy] at c1 hvb hv0
        have HB := Lib.hid (And.intro hj (And.intro hx hy))
        have hltI : (at_ : Int) + 1 < n := by omega
        have hltI2 : (at_ : Int) < n := by omega
        have hw0 : IntKind.i64.wrap (x * 256) = x * 256 := IntWalk.i64_in _ (by omega)
        have hw1 : IntKind.i64.wrap (269 + x * 256) = 269 + x * 256 := IntWalk.i64_in _ (by omega)
        have hw2 : IntKind.i64.wrap (269 + x * 256 + y) = 269 + x * 256 + y := IntWalk.i64_in _ (by omega)
        have hw3 : IntKind.i64.wrap ((at_ : Int) + 1) = (at_ : Int) + 1 := IntWalk.i64_in _ (by omega)
        have hw4 : IntKind.i64.wrap ((at_ : Int) + 2) = (at_ : Int) + 2 := IntWalk.i64_in _ (by omega)
        have hw5 : ((at_ : Int) + 1).toNat = at_ + 1 := by omega
        have hw6 : (0 : Int) ≤ (at_ : Int) + 1 := by omega
        clear hbs hj hln hcell hx hy hu hv
        go_enter Try.func62, Try.ntmps62
        go_wp2
        go_quiet (fail)
        go_wp2
        go_ret3
        refine ⟨⟨_, rfl⟩, ?_⟩
        rw [HB.out.1]
        exact ret_31 (int_eq (by have := HB.out.2.1; have := HB.out.2.2; omega)) (int_eq (by omega))
      · have hj : jn 14 (l.drop at_) = none := by
          have h1 : (l.drop at_).length ≤ 1 := by rw [List.length_drop]; omega
          match l.drop at_, h1 with
          | [], _ => rfl
          | [_], _ => rfl
          | _ :: _ :: _, h1 => simp at h1
        have HB := Lib.hid hj
        have hltI : (n : Int) - at_ < 2 := by omega
        clear hbs hj hln
        go_enter Try.func62, Try.ntmps62
        go_wp2
        go_ret3
        refine ⟨⟨0, rfl⟩, ?_⟩
        rw [HB.out]
        exact rfl
end Go.Proofs.Ytdgihhepmmkkpaa
