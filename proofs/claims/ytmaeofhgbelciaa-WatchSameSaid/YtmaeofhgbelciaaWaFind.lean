/-
  Watches found, and struck out, by a predicate; the table at its address.
-/
import Derived.Test.YtmaeofhgbelciaaWaClone
import Derived.Laws.OwnMore
import Derived.Lib.SliceRun
namespace Go.Proofs.Ytmaeofhgbelciaa
open Go.RowKit
set_option maxRecDepth 100000
set_option maxRecDepth 100000
set_option linter.unusedVariables false
def FnW (g : Nat) : Prop := ∀ args w, (callFunc g args).run Try.prog w = .ok (.enter g args) w
theorem fn_of : FnW 55 := enters_of Try.func55 (by kernel_rfl) rfl
theorem fn_ds : FnW 44 := enters_of Try.func44 (by kernel_rfl) rfl
theorem fn_dp : FnW 42 := enters_of Try.func42 (by kernel_rfl) rfl
theorem Wok.rd {w : World} {B : Nat} {s : Wr} (h : Wok w B s) : Wrd w w.heap.size s := ⟨h.1.bs, h.2.1.at_, h.2.2.bs⟩
theorem Wok.below {w w' : World} {B : Nat} {s : Wr} (h : Wok w B s) (hb : Below w.heap.size w w') : Wok w' B s := ⟨h.1.below hb, h.2.1.below hb, h.2.2.below hb⟩
theorem Wok.mono {w : World} {B B' : Nat} {s : Wr} (h : Wok w B s) (hb : B' ≤ B) : Wok w B' s := ⟨h.1.mono hb, h.2.1.mono hb, h.2.2.mono hb⟩
theorem Wok.fx {w w' : World} {tb B : Nat} {row : Option Nat} {s : Wr} (h : Wok w B s) (hf : Fx tb row w w') (h1 : ∀ n c A e sz xs, (e = 5 ∨ e = 3) → w.ownsRow B e sz (.slice A n c) n xs → Value.ownBlock (.slice A n c) ≠ some tb ∧ (Value.ownBlock (.slice A n c) = none ∨ Value.ownBlock (.slice A n c) ≠ row)) : Wok w' B s := by
  obtain ⟨⟨a, a'⟩, ⟨b, b'⟩, ⟨c, c'⟩⟩ := h
  exact ⟨⟨hf.row_ a (h1 _ _ _ _ _ _ (.inl rfl) a).1 (h1 _ _ _ _ _ _ (.inl rfl) a).2, a'⟩, ⟨hf.row_ b (h1 _ _ _ _ _ _ (.inr rfl) b).1 (h1 _ _ _ _ _ _ (.inr rfl) b).2, b'⟩, ⟨hf.row_ c (h1 _ _ _ _ _ _ (.inl rfl) c).1 (h1 _ _ _ _ _ _ (.inl rfl) c).2, c'⟩⟩
theorem Wrd.below {w w' : World} {B : Nat} {s : Wr} (h : Wrd w B s) (hb : Below B w w') : Wrd w' B s := ⟨h.1.below hb, h.2.1.below hb, h.2.2.below hb⟩
theorem Wrd.more {w : World} {B B' : Nat} {s : Wr} (h : Wrd w B s) (hb : B ≤ B') : Wrd w B' s := ⟨h.1.more hb, h.2.1.more hb, h.2.2.more hb⟩
theorem Wrd.up {w w' : World} {s : Wr} (h : Wrd w w.heap.size s) (hb : Below w.heap.size w w') : Wrd w' w'.heap.size s := (h.below hb).more hb.size
def hitW (sv : Int) (tok : List UInt8) (q : Wq) : Bool := q.sv == sv && decide (q.tok = tok)
/-- The closure that looks for a server and a token. -/
theorem of1_f (b1 b2 : Nat) (sv0 : Int) (A0 : Option Addr) (n0 c0 : Nat) (tok0 : List UInt8) (s : Wr) (w : World) (hs : Wrd w w.heap.size s) (hn : Wsm s) (h1 : b1 < w.heap.size) (h2 : b2 < w.heap.size) (hc1 : w.cell? ⟨b1, 0, none⟩ = some (.int .i64 sv0)) (hc2 : w.cell? ⟨b2, 0, none⟩ = some (.slice A0 n0 c0)) (hb0 : Bs w w.heap.size A0 n0 tok0) :
    Calls Try.prog 55 #[.agg s.vals.toArray, .pointer (some ⟨b1, 0, none⟩), .pointer (some ⟨b2, 0, none⟩)] w fun e w' => e = .returned (.bool (hitW sv0 tok0 s.q)) ∧ Below w.heap.size w w' := by
  obtain ⟨⟨sv, tok, pa, ⟨ca, cb, cha, chb, cg, cl, cs, chg, chl, chs⟩, ⟨k, m, str, l, o, i⟩, t, sq⟩, tA, tn, tc, pA, pn, pc, bA, bn, bc⟩ := s
  dsimp only [Wr.vals, hitW]
  obtain ⟨W, hW⟩ : ∃ W, w.alloc (.cells #[.int .i64 sv, .slice tA tn tc, .slice pA pn pc, .int .i64 ca, .int .i64 cb, .bool cha, .bool chb, .int .i64 cg, .int .i64 cl, .int .i64 cs, .bool chg, .bool chl, .bool chs, .int .i64 k, .int .i64 m, .string str, .slice bA bn bc, .int .i64 o, .int .i64 i, .int .i64 t, .int .i64 sq] 37) = W := ⟨_, rfl⟩
  have hb : Below w.heap.size w W := by rw [← hW]; exact alloc_below w _
  have he := equal_any tA A0 tn tc n0 c0 tok tok0 W _ _ (hs.1.below hb) (hb0.below hb)
  obtain ⟨q, hq⟩ : ∃ q, decide (tok = tok0) = q := ⟨_, rfl⟩
  rw [hq] at he ⊢
  have HH := Lib.hid (And.intro he hb)
  have HW := Lib.hid hW
  clear he hb hq hs hb0 hW hn
  by_cases hf : sv = sv0
  · subst hf
    have hq : (sv == sv) = true := beq_self_eq_true _
    rw [hq]
    go_enter Try.func55, Try.ntmps55
    go_wp2_with (go_at_call 56; go_loud (rw [HW.out]; refine HH.out.1.mono ?_); rintro e w' ⟨rfl, hw⟩; obtain rfl := hw.symm)
    go_ret
    exact ⟨(by rw [Bool.true_and]; first | done | rfl), HH.out.2⟩
  · have hq : (sv == sv0) = false := beq_eq_false_iff_ne.2 hf
    rw [hq]
    go_enter Try.func55, Try.ntmps55
    go_wp2
    go_ret
    exact ⟨rfl, by have := HH.out.2; rw [← HW.out] at this; exact this⟩
theorem ds1_f (b1 : Nat) (sv0 : Int) (s : Wr) (w : World) (h1 : b1 < w.heap.size) (hc1 : w.cell? ⟨b1, 0, none⟩ = some (.int .i64 sv0)) :
    Calls Try.prog 44 #[.agg s.vals.toArray, .pointer (some ⟨b1, 0, none⟩)] w fun e w' => e = .returned (.bool (s.q.sv == sv0)) ∧ Below w.heap.size w w' := by
  obtain ⟨⟨sv, tok, pa, ⟨ca, cb, cha, chb, cg, cl, cs, chg, chl, chs⟩, ⟨k, m, str, l, o, i⟩, t, sq⟩, tA, tn, tc, pA, pn, pc, bA, bn, bc⟩ := s
  dsimp only [Wr.vals]
  have hb := Lib.hid (alloc_below w (.cells #[.int .i64 sv, .slice tA tn tc, .slice pA pn pc, .int .i64 ca, .int .i64 cb, .bool cha, .bool chb, .int .i64 cg, .int .i64 cl, .int .i64 cs, .bool chg, .bool chl, .bool chs, .int .i64 k, .int .i64 m, .string str, .slice bA bn bc, .int .i64 o, .int .i64 i, .int .i64 t, .int .i64 sq] 37))
  go_enter Try.func44, Try.ntmps44
  go_wp2
  go_ret
  exact ⟨rfl, hb.out⟩
/-- The first place at which a predicate holds, or -1. -/
def idxW (p : Wq → Bool) (vs : List Wr) : Int := match vs.findIdx? (fun s => p s.q) with | some i => (i : Int) | none => -1
theorem idxW_hit {p : Wq → Bool} {vs : List Wr} {k : Nat} {s : Wr} (h : ∀ (j : Nat) (t : Wr), j < k → vs[j]? = some t → p t.q = false) (hs : vs[k]? = some s) (hp : p s.q = true) : idxW p vs = k := by
  have : vs.findIdx? (fun s => p s.q) = some k := by
    rw [List.findIdx?_eq_some_iff_getElem]
    obtain ⟨hk, rfl⟩ := List.getElem?_eq_some_iff.1 hs
    exact ⟨hk, hp, fun j hj => by rw [h j _ hj (List.getElem?_eq_getElem (by omega))]; simp⟩
  unfold idxW; rw [this]
theorem idxW_miss {p : Wq → Bool} {vs : List Wr} (h : ∀ (j : Nat) (t : Wr), j < vs.length → vs[j]? = some t → p t.q = false) : idxW p vs = -1 := by
  have : vs.findIdx? (fun s => p s.q) = none := by
    rw [List.findIdx?_eq_none_iff]
    intro x hx
    obtain ⟨j, hj⟩ := List.mem_iff_getElem?.1 hx
    exact h j x (List.getElem?_eq_some_iff.1 hj).1 hj
  unfold idxW; rw [this]
theorem idxW_cases (p : Wq → Bool) (vs : List Wr) : (idxW p vs = -1 ∧ ∀ s ∈ vs, p s.q = false) ∨ ∃ (k : Nat) (s : Wr), idxW p vs = k ∧ vs[k]? = some s ∧ p s.q = true ∧ ∀ (j : Nat) (t : Wr), j < k → vs[j]? = some t → p t.q = false := by
  unfold idxW
  cases h : vs.findIdx? (fun s => p s.q) with
  | none =>
    rw [List.findIdx?_eq_none_iff] at h
    exact .inl ⟨rfl, h⟩
  | some i =>
    rw [List.findIdx?_eq_some_iff_getElem] at h
    obtain ⟨hi, hp, hh⟩ := h
    refine .inr ⟨i, vs[i], rfl, List.getElem?_eq_getElem hi, hp, fun j t hj ht => ?_⟩
    obtain ⟨hjl, rfl⟩ := List.getElem?_eq_some_iff.1 ht
    have := hh j hj
    simpa using this
theorem ret_iw {a b : Int} (h : a = b) : Ending.returned (.int .i64 a) = .returned (.int .i64 b) := by rw [h]
set_option maxHeartbeats 4000000 in
theorem indexW_f (g : Nat) (lb : Array Value) (p : Wq → Bool) (eg : FnW g) (A : Option Addr) (n c : Nat) (vs : List Wr) (w : World) (hsh : wK.At w w.heap.size A n vs) (hn : (n : Int) ≤ 9223372036854775807)
    (hp : ∀ (W : World) (s : Wr), Below w.heap.size w W → s ∈ vs → Calls Try.prog g (#[.agg s.vals.toArray] ++ lb) W fun e w' => e = .returned (.bool (p s.q)) ∧ Below W.heap.size W w') :
    Calls Try.prog 48 #[.slice A n c, .func (.func g) #[] lb] w fun e w' => e = .returned (.int .i64 (idxW p vs)) ∧ Below w.heap.size w w' := by
  unfold FnW at eg
  have HS : Aside _ := hsh
  have HP : Aside _ := hp
  clear hsh hp
  go_enter Try.func48, Try.ntmps48
  go_wp2
  go_loopg [5, 8] n (fun gg _ s8 wr => ∃ kk : Nat, kk ≤ n ∧ n - kk ≤ gg ∧ s8 = .int .i64 kk ∧ Aside (Below w.heap.size w wr) ∧ Aside (∀ (j : Nat) (t : Wr), j < kk → vs[j]? = some t → p t.q = false))
  case atStart => exact ⟨0, Nat.zero_le _, by omega, rfl, Below.refl _ w, fun j t hj => absurd hj (Nat.not_lt_zero _)⟩
  case round =>
    obtain ⟨kk, hkk, hg, rfl, BW, HA⟩ := hrel
    by_cases hlt : kk < n
    · have hltz : (kk : Int) < (n : Int) := by omega
      have hsr := HS.out.below BW.out
      obtain ⟨b, off, rfl, hb, _⟩ := hsr.place (by omega)
      obtain ⟨s, hs⟩ := hsr.get hlt
      have hr := hsr.range hs
      replace hr : wr.rangeAt b (off + kk * 21) s.vals := hr
      have hcall := HP.out wr s BW.out (List.mem_of_getElem? hs)
      have HS1 : Aside _ := hs
      clear hsr hs
      obtain ⟨q, hq⟩ : ∃ q, p s.q = q := ⟨_, rfl⟩
      rw [hq] at hcall
      have HQ := Lib.hid hq
      clear hq
      cases q with
      | true =>
        go_wp2_with (first
          | (refine wpList_load_mid rfl 37 (.tmp 14) rfl b (off + kk * 21) rfl s.vals _ hr Try.underlying37 rfl size_wr ?_)
          | (go_at_fn g; refine hcall.mono ?_; rintro e w' ⟨rfl, hb'⟩))
        go_ret
        refine ⟨?_, BW.out.trans (hb'.mono BW.out.size)⟩
        exact ret_iw (idxW_hit HA.out HS1.out HQ.out).symm
      | false =>
        go_wp2_with (first
          | (refine wpList_load_mid rfl 37 (.tmp 14) rfl b (off + kk * 21) rfl s.vals _ hr Try.underlying37 rfl size_wr ?_)
          | (go_at_fn g; refine hcall.mono ?_; rintro e w' ⟨rfl, hb'⟩))
        go_roundg (n - (kk + 1))
        case measure => omega
        case rel =>
          refine ⟨kk + 1, by omega, by omega, by go_num, BW.out.trans (hb'.mono BW.out.size), (show Aside _ from fun j t hj ht => ?_)⟩
          by_cases e : j = kk
          · subst e
            have e2 := HS1.out
            rw [ht] at e2
            obtain rfl := Option.some.inj e2
            exact HQ.out
          · exact HA.out j t (by omega) ht
    · have hltz : ¬ (kk : Int) < (n : Int) := by omega
      have : kk = n := by omega
      subst this
      go_wp2
      go_ret
      refine ⟨?_, BW.out⟩
      exact ret_iw (idxW_miss fun j t hj ht => HA.out j t (by have := HS.out.len; omega) ht).symm
theorem w_filter_step {p : Wq → Bool} {vs : List Wr} {j : Nat} {s : Wr} (h : vs[j]? = some s) : (vs.take (j + 1)).filter (fun s => !p s.q) = (vs.take j).filter (fun s => !p s.q) ++ (if p s.q = true then [] else [s]) := by
  rw [List.take_add_one, h, List.filter_append]
  congr 1
  cases hp : p s.q <;> simp [List.filter, hp]
theorem own_sh {w : World} {base : Nat} {e : TypeId} {g n cap : Nat} {X : List Wr} (h : w.ownsRow base e 21 (.slice (some ⟨g, 0, none⟩) n cap) n (wK.all X)) : wK.At w w.heap.size (some ⟨g, 0, none⟩) n X := by
  obtain ⟨A, c, e1, _, _, hs, _⟩ := RowK.At.of_own h
  injection e1 with e1 _ _
  rw [e1]; exact hs
set_option maxHeartbeats 16000000 in
theorem wdel_f (v : Value) (n : Nat) (vs : List Wr) (w : World) (base : Nat) (hrow : w.ownsRow base 37 21 v n (wK.all vs)) (gf : Nat) (lb : Array Value) (p : Wq → Bool) (eg : FnW gf) (hn : n ≤ 1048576)
    (hp : ∀ (W : World) (s : Wr), w.grownBy W v.ownBlock → s ∈ vs → Calls Try.prog gf (#[.agg s.vals.toArray] ++ lb) W fun e w' => e = .returned (.bool (p s.q)) ∧ Below W.heap.size W w') :
    Calls Try.prog 54 #[v, .func (.func gf) #[] lb] w fun e w' => ∃ v', e = .returned v' ∧ w'.ownsRow base 37 21 v' (vs.filter (fun s => !p s.q)).length (wK.all (vs.filter (fun s => !p s.q))) ∧ w.grownBy w' v.ownBlock ∧ (v' = v ∨ v'.ownBlock = v.ownBlock) := by
  obtain ⟨A, c, rfl, hc, hcm, hsh, hbas⟩ := RowK.At.of_own hrow
  have hnI : (n : Int) ≤ 1048576 := by omega
  have hidx := indexW_f gf lb p eg A n c vs w hsh (by omega) (fun W s h hs => hp W s (rk_grown _ h) hs)
  rcases idxW_cases p vs with ⟨hm1, hall⟩ | ⟨k, s0, hk1, hk2, hk3, hk4⟩
  · rw [hm1] at hidx
    have hf : vs.filter (fun s => !p s.q) = vs := List.filter_eq_self.2 fun s hs => by rw [hall s hs]; rfl
    have HH : Aside _ := And.intro hrow (And.intro hf (RowK.own_len hrow))
    clear hrow hp hsh hf hm1 hall hbas
    go_enter Try.func54, Try.ntmps54
    go_wp2_with (go_at_call 48; refine hidx.mono ?_; rintro e w1 ⟨rfl, b1⟩)
    go_ret
    refine ⟨_, rfl, ?_, rk_grown _ b1, .inl rfl⟩
    rw [HH.out.2.1, HH.out.2.2]
    exact rk_below HH.out.1 b1
  · rw [hk1] at hidx
    have hkl : k < n := by have := (List.getElem?_eq_some_iff.1 hk2).1; have := RowK.own_len hrow; omega
    obtain ⟨b, off, e1, hbl, _⟩ := hsh.place (by omega)
    obtain ⟨g', e2, _⟩ := hbas _ e1
    injection e2 with e2 e3
    subst e1 e2 e3
    have hpre : (vs.take (k + 1)).filter (fun s => !p s.q) = vs.take k := by
      rw [w_filter_step hk2, if_pos hk3, List.append_nil]
      exact List.filter_eq_self.2 fun s hs => by
        obtain ⟨j, hj⟩ := List.mem_iff_getElem?.1 hs
        have hjk : j < k := by have := (List.getElem?_eq_some_iff.1 hj).1; rw [List.length_take] at this; omega
        rw [List.getElem?_take_of_lt hjk] at hj
        rw [hk4 j s hjk hj]; rfl
    have hvl := RowK.own_len hrow
    have hcI : (n : Int) ≤ c := by omega
    have hkI : (k : Int) < n := by omega
    have hkm : ((k : Int) == -1) = false := beq_eq_false_iff_ne.2 (by omega)
    have HH : Aside _ := And.intro hrow (And.intro hp (And.intro hpre hvl))
    clear hrow hp hsh hpre hk2 hk3 hk4 hk1 hvl hbas
    have eg' := eg
    unfold FnW at eg'
    go_enter Try.func54, Try.ntmps54
    go_wp2_with (go_at_call 48; refine hidx.mono ?_; rintro e w1 ⟨rfl, b1⟩; have H1 : Aside _ := b1; clear b1)
    go_loopw [5, 6, 7] (fun i j _ wr => ∃ (iN jN : Nat) (X : List Wr), iN < jN ∧ jN ≤ n ∧ i = .int .i64 iN ∧ j = .int .i64 jN ∧ wr.ownsRow base 37 21 (.slice (some ⟨b, 0, none⟩) n c) n (wK.all X) ∧ Aside (X.take iN = (vs.take jN).filter (fun s => !p s.q)) ∧ Aside (X.drop jN = vs.drop jN) ∧ w.grownBy wr (some b)) (fun _ j _ _ => n - (intOf j).toNat)
    case atStart =>
      refine ⟨k, k + 1, vs, by omega, by omega, rfl, by go_num, rk_below HH.out.1 H1.out, ?_, rfl, rk_grown _ H1.out⟩
      exact HH.out.2.2.1.symm
    case round =>
      obtain ⟨iN, jN, X, hij, hjn, rfl, rfl, hrow, hx1, hx2, hgr⟩ := hrel
      have hXl := RowK.own_len hrow
      by_cases hlt : jN < n
      · obtain ⟨s, hs⟩ : ∃ s, X[jN]? = some s := ⟨_, List.getElem?_eq_getElem (by omega)⟩
        have hsv : vs[jN]? = some s := by
          have e1 : (X.drop jN)[0]? = (vs.drop jN)[0]? := by rw [hx2.out]
          rw [List.getElem?_drop, List.getElem?_drop, Nat.add_zero] at e1
          rw [← e1]; exact hs
        have hstep := w_filter_step (p := p) hsv
        have hd : X.drop (jN + 1) = vs.drop (jN + 1) := by
          have e1 := congrArg (List.drop 1) hx2.out
          rwa [List.drop_drop, List.drop_drop] at e1
        have hrg := (own_sh hrow).range hs
        rw [Nat.zero_add] at hrg
        have hltI : (jN : Int) < n := by omega
        have HX : Aside _ := And.intro hrow (And.intro hgr (And.intro hstep (And.intro hd (And.intro hXl (And.intro hs hx1)))))
        clear hrow hgr hstep hd hXl hs hx1 hx2
        obtain ⟨q, hq⟩ : ∃ q, p s.q = q := ⟨_, rfl⟩
        have HQ := Lib.hid hq
        have hmem := List.mem_of_getElem? hsv
        clear hsv
        replace hrg : wr.rangeAt b (jN * 21) s.vals := hrg
        have hal := alloc_below wr (.cells #[.int .i64 0, .slice none 0 0, .slice none 0 0, .int .i64 0, .int .i64 0, .bool false, .bool false, .int .i64 0, .int .i64 0, .int .i64 0, .bool false, .bool false, .bool false, .int .i64 0, .int .i64 0, .string ⟨#[]⟩, .slice none 0 0, .int .i64 0, .int .i64 0, .int .i64 0, .int .i64 0] 37)
        have hthn : (wr.alloc (.cells #[.int .i64 0, .slice none 0 0, .slice none 0 0, .int .i64 0, .int .i64 0, .bool false, .bool false, .int .i64 0, .int .i64 0, .int .i64 0, .bool false, .bool false, .bool false, .int .i64 0, .int .i64 0, .string ⟨#[]⟩, .slice none 0 0, .int .i64 0, .int .i64 0, .int .i64 0, .int .i64 0] 37)).there wr.heap.size 0 21 := there_new wr _ _ rfl
        have hall := hal.trans (below_setCells (Below.refl wr.heap.size (wr.alloc (.cells #[.int .i64 0, .slice none 0 0, .slice none 0 0, .int .i64 0, .int .i64 0, .bool false, .bool false, .int .i64 0, .int .i64 0, .int .i64 0, .bool false, .bool false, .bool false, .int .i64 0, .int .i64 0, .string ⟨#[]⟩, .slice none 0 0, .int .i64 0, .int .i64 0, .int .i64 0, .int .i64 0] 37))) (b := wr.heap.size) (Nat.le_refl _) s.vals 0)
        have hsz9 : ((wr.alloc (.cells #[.int .i64 0, .slice none 0 0, .slice none 0 0, .int .i64 0, .int .i64 0, .bool false, .bool false, .int .i64 0, .int .i64 0, .int .i64 0, .bool false, .bool false, .bool false, .int .i64 0, .int .i64 0, .string ⟨#[]⟩, .slice none 0 0, .int .i64 0, .int .i64 0, .int .i64 0, .int .i64 0] 37)).setCells wr.heap.size 0 s.vals).heap.size = wr.heap.size + 1 := by rw [size_setCells', alloc_size]
        have hr9 : ((wr.alloc (.cells #[.int .i64 0, .slice none 0 0, .slice none 0 0, .int .i64 0, .int .i64 0, .bool false, .bool false, .int .i64 0, .int .i64 0, .int .i64 0, .bool false, .bool false, .bool false, .int .i64 0, .int .i64 0, .string ⟨#[]⟩, .slice none 0 0, .int .i64 0, .int .i64 0, .int .i64 0, .int .i64 0] 37)).setCells wr.heap.size 0 s.vals).rangeAt wr.heap.size 0 s.vals := range_stored hthn
        have HA9 := Lib.hid (And.intro hall (And.intro hsz9 hr9))
        have hcall := fun W hb => HH.out.2.1 W s (rk_trans HX.out.2.1 (rk_grown _ hb)) hmem
        rw [hq] at hcall
        have HC9 := Lib.hid hcall
        clear hq hmem hcall hal hall hsz9 hr9
        cases q with
        | true =>
          go_wp2_with (first
            | (refine wpList_load_mid rfl 37 (.tmp 24) rfl b (jN * 21) rfl s.vals _ hrg Try.underlying37 rfl size_wr ?_)
            | (refine wpList_store_mid rfl 37 (.tmp 7) (.tmp 25) rfl wr.heap.size 0 s.vals.toArray rfl rfl hthn size_wr (all_oneCell_toArray (wK.one s)) ?_
               refine gen_world (F := fun W => wpList Try.prog _ _ _ _ W) (fun W => Below wr.heap.size wr W ∧ W.heap.size = wr.heap.size + 1 ∧ W.rangeAt wr.heap.size 0 s.vals) HA9.out ?_
               rintro w9 ⟨b9, s9, r9⟩)
            | (refine wpList_load_mid rfl 37 (.tmp 7) rfl wr.heap.size 0 rfl s.vals _ r9 Try.underlying37 rfl size_wr ?_)
            | (go_at_fn gf; refine (HC9.out _ b9).mono ?_; rintro e w2 ⟨rfl, b2⟩; have H2 : Aside _ := b9.trans (b2.mono b9.size); clear b2))
          go_roundw
          case rel =>
            obtain ⟨hrow, hgr, hstep, hd, hXl, hs, hx1⟩ := HX.out
            exact ⟨iN, jN + 1, X, by omega, by omega, rfl, by go_num, rk_below hrow H2.out, (show Aside _ from by rw [hstep, if_pos HQ.out, List.append_nil]; exact hx1.out), hd, rk_trans hgr (rk_grown _ H2.out)⟩
          case measure => simp [intOf]; omega
        | false =>
          go_wp2_with (first
            | (refine wpList_load_mid rfl 37 (.tmp 24) rfl b (jN * 21) rfl s.vals _ hrg Try.underlying37 rfl size_wr ?_)
            | (refine wpList_store_mid rfl 37 (.tmp 7) (.tmp 25) rfl wr.heap.size 0 s.vals.toArray rfl rfl hthn size_wr (all_oneCell_toArray (wK.one s)) ?_
               refine gen_world (F := fun W => wpList Try.prog _ _ _ _ W) (fun W => Below wr.heap.size wr W ∧ W.heap.size = wr.heap.size + 1 ∧ W.rangeAt wr.heap.size 0 s.vals) HA9.out ?_
               rintro w9 ⟨b9, s9, r9⟩)
            | (refine wpList_load_mid rfl 37 (.tmp 7) rfl wr.heap.size 0 rfl s.vals _ r9 Try.underlying37 rfl size_wr ?_)
            | (go_at_fn gf; refine (HC9.out _ b9).mono ?_; rintro e w2 ⟨rfl, b2⟩; have r10 : w2.rangeAt wr.heap.size 0 s.vals := range_below r9 b2 (by rw [s9]; omega); have H2 : Aside _ := b9.trans (b2.mono b9.size); have hth := RowK.own_there (K := wK) (rk_below HX.out.1 H2.out) (iN * 21) 21 (by have : (iN + 1) * 21 ≤ n * 21 := Nat.mul_le_mul_right _ (by omega); omega); clear b2)
            | (refine wpList_load_mid rfl 37 (.tmp 7) rfl wr.heap.size 0 rfl s.vals _ r10 Try.underlying37 rfl size_wr ?_)
            | (refine wpList_store_mid rfl 37 (.tmp 33) (.tmp 32) rfl b (iN * 21) s.vals.toArray rfl rfl hth size_wr (all_oneCell_toArray (wK.one s)) ?_
               refine gen_world (F := fun W => wpList Try.prog _ _ _ _ W) (fun W => Aside (W.ownsRow base 37 21 (.slice (some ⟨b, 0, none⟩) n c) n (wK.all (X.set iN s)) ∧ w.grownBy W (some b))) (by
                 have hr := RowK.own_set (K := wK) (rk_below HX.out.1 H2.out) iN s (by omega)
                 exact ⟨hr.1, rk_trans (rk_trans HX.out.2.1 (rk_grown _ H2.out)) hr.2⟩) ?_
               rintro w3 H3))
          go_roundw
          case rel =>
            obtain ⟨hrow, hgr, hstep, hd, hXl, hs, hx1⟩ := HX.out
            refine ⟨iN + 1, jN + 1, X.set iN s, by omega, by omega, by go_num, by go_num, H3.out.1, (show Aside _ from ?_), (show Aside _ from ?_), H3.out.2⟩
            · rw [hstep, if_neg (by rw [HQ.out]; decide), ← hx1.out]
              rw [List.take_add_one, List.take_set, List.set_eq_of_length_le (by rw [List.length_take]; omega), List.getElem?_set_self (by omega)]; rfl
            · rw [List.drop_set_of_lt (by omega)]; exact hd
          case measure => simp [intOf]; omega
      · obtain rfl : jN = n := by omega
        have hth := RowK.own_there (K := wK) hrow (iN * 21) ((jN - iN) * 21) (by rw [← Nat.add_mul]; exact Nat.mul_le_mul_right _ (by omega))
        have hfin : X.take iN = vs.filter (fun s => !p s.q) := by
          have := hx1.out
          rw [List.take_of_length_le (l := vs) (by have := HH.out.2.2.2; omega)] at this
          exact this
        have HX : Aside _ := And.intro hrow (And.intro hgr (And.intro hfin hXl))
        have hiI : (iN : Int) < jN := by omega
        clear hrow hgr hfin hXl hx1 hx2
        have hclr : ∀ ty, ∃ us, (Builtin.clear_ #[38] ty #[.slice (some ⟨b, iN * 21, none⟩) (jN - iN) (c - iN)]).run Try.prog wr = .ok (.tuple #[]) (wr.setCells b (iN * 21) us) := fun ty =>
          rk_clear (P := Try.prog) wr 38 37 ty _ Try.underlying38 zero_wr rfl (by decide) (by decide) b (iN * 21) (jN - iN) (c - iN) (by omega) hth
        have HC := Lib.hid hclr
        clear hclr hth
        have hne : ¬ c = iN := by omega
        go_wp2_with (refine rk_wpList_clear _ rfl (.tmp 38) 38 rfl b (iN * 21) (jN - iN) (c - iN) rfl HC.out ?_
                     intro us
                     refine gen_world (F := fun W => wpList Try.prog _ _ _ _ W) (fun W => Aside (W.ownsRow base 37 21 (.slice (some ⟨b, 0, none⟩) iN c) iN (wK.all (X.take iN)) ∧ w.grownBy W (some b))) (by
                       exact ⟨rk_behind (RowK.own_cut (K := wK) HX.out.1 iN (by omega)) us _ (Nat.le_refl _), rk_trans HX.out.2.1 (rk_setCells wr b us _)⟩) ?_
                     rintro w3 H3)
        go_ret
        refine ⟨_, rfl, ?_, H3.out.2, .inr rfl⟩
        have h3 := H3.out.1
        have hl := RowK.own_len h3
        rw [HX.out.2.2.1] at h3 hl
        rw [hl]
        exact h3
end Go.Proofs.Ytmaeofhgbelciaa
