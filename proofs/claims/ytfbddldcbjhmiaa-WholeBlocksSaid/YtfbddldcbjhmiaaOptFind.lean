/-
  Options: found by a predicate; the bytes that a value tells; checked.
-/
import Derived.Test.YtfbddldcbjhmiaaOpt
import Derived.BigQuiet
namespace Go.Proofs.Ytfbddldcbjhmiaa
open Go.RowKit
set_option maxRecDepth 100000
set_option linter.unusedVariables false
theorem ret_i {a b : Int} (h : a = b) : Ending.returned (.int .i64 a) = .returned (.int .i64 b) := by rw [h]
/-- A predicate that is handed in. -/
def PredB (g : Nat) (lb : Array Value) (p : Sv → Bool) (w : World) : Prop :=
  ∀ (W : World) (s : Sv), Below w.heap.size w W → Calls Try.prog g (#[.agg #[.int .i64 s.k, .slice s.A s.n s.c]] ++ lb) W fun e w' => e = .returned (.bool (p s)) ∧ Below W.heap.size W w'
theorem PredB.later {g : Nat} {lb : Array Value} {p : Sv → Bool} {w W : World} (h : PredB g lb p w) (hb : Below w.heap.size w W) : PredB g lb p W :=
  fun W' s hb' => h W' s (hb.trans (hb'.mono hb.size))
def Fn (g : Nat) : Prop := ∀ args w, (callFunc g args).run Try.prog w = .ok (.enter g args) w
theorem fn_of : Fn 75 := enters_of Try.func75 (by kernel_rfl) rfl
theorem fn_add : Fn 36 := enters_of Try.func36 (by kernel_rfl) rfl
theorem fn_c1 : Fn 84 := enters_of Try.func84 (by kernel_rfl) rfl
theorem fn_c2 : Fn 85 := enters_of Try.func85 (by kernel_rfl) rfl
theorem of1_f (b : Nat) (num k : Int) (A : Option Addr) (n c : Nat) (w : World) (hb : b < w.heap.size) (hc : w.cell? ⟨b, 0, none⟩ = some (.int .i64 num)) :
    Calls Try.prog 75 #[.agg #[.int .i64 k, .slice A n c], .pointer (some ⟨b, 0, none⟩)] w fun e w' => e = .returned (.bool (k == num)) ∧ Below w.heap.size w w' := by
  go_enter Try.func75, Try.ntmps75
  go_wp2
  go_ret
  exact ⟨rfl, (Below.refl _ _).alloc (Nat.le_refl _) _⟩
theorem add1_f (b : Nat) (num k : Int) (A : Option Addr) (n c : Nat) (w : World) (hb : b < w.heap.size) (hc : w.cell? ⟨b, 0, none⟩ = some (.int .i64 num)) :
    Calls Try.prog 36 #[.agg #[.int .i64 k, .slice A n c], .pointer (some ⟨b, 0, none⟩)] w fun e w' => e = .returned (.bool (decide (num < k))) ∧ Below w.heap.size w w' := by
  go_enter Try.func36, Try.ntmps36
  go_wp2
  go_ret
  exact ⟨rfl, (Below.refl _ _).alloc (Nat.le_refl _) _⟩
def badNum (k : Int) : Bool := decide (k < 0) || decide (65535 < k)
theorem c1_f (k : Int) (A : Option Addr) (n c : Nat) (w : World) :
    Calls Try.prog 84 #[.agg #[.int .i64 k, .slice A n c]] w fun e w' => e = .returned (.bool (badNum k)) ∧ Below w.heap.size w w' := by
  by_cases h0 : k < 0
  · have hr : badNum k = true := by unfold badNum; rw [decide_eq_true h0]; rfl
    go_enter Try.func84, Try.ntmps84
    go_wp2
    go_ret
    exact ⟨retB hr.symm, (Below.refl _ _).alloc (Nat.le_refl _) _⟩
  · have hr : badNum k = decide (65535 < k) := by unfold badNum; rw [decide_eq_false h0]; rfl
    have HR := Lib.hid hr
    clear hr
    go_enter Try.func84, Try.ntmps84
    go_wp2
    go_ret
    exact ⟨retB HR.out.symm, (Below.refl _ _).alloc (Nat.le_refl _) _⟩
theorem c2_f (k : Int) (A : Option Addr) (n c : Nat) (w : World) :
    Calls Try.prog 85 #[.agg #[.int .i64 k, .slice A n c]] w fun e w' => e = .returned (.bool (decide ((300 : Int) < n))) ∧ Below w.heap.size w w' := by
  go_enter Try.func85, Try.ntmps85
  go_wp2
  go_ret
  exact ⟨rfl, (Below.refl _ _).alloc (Nat.le_refl _) _⟩
theorem pred_of (b : Nat) (num : Int) (w : World) (hb : b < w.heap.size) (hc : w.cell? ⟨b, 0, none⟩ = some (.int .i64 num)) : PredB 75 #[.pointer (some ⟨b, 0, none⟩)] (fun s => s.k == num) w :=
  fun W s h => of1_f b num s.k s.A s.n s.c W (Nat.lt_of_lt_of_le hb h.size) ((h.cell (p := ⟨b, 0, none⟩) hb).trans hc)
theorem pred_add (b : Nat) (num : Int) (w : World) (hb : b < w.heap.size) (hc : w.cell? ⟨b, 0, none⟩ = some (.int .i64 num)) : PredB 36 #[.pointer (some ⟨b, 0, none⟩)] (fun s => decide (num < s.k)) w :=
  fun W s h => add1_f b num s.k s.A s.n s.c W (Nat.lt_of_lt_of_le hb h.size) ((h.cell (p := ⟨b, 0, none⟩) hb).trans hc)
theorem pred_c1 (w : World) : PredB 84 #[] (fun s => badNum s.k) w := fun W s h => c1_f s.k s.A s.n s.c W
theorem pred_c2 (w : World) : PredB 85 #[] (fun s => decide ((300 : Int) < s.n)) w := fun W s h => c2_f s.k s.A s.n s.c W
/-- opt.of: a closure with its number in a cell of its own. -/
theorem of_f (num : Int) (w : World) : Calls Try.prog 45 #[.int .i64 num] w fun e w' => e = .returned (.func (.func 75) #[] #[.pointer (some ⟨w.heap.size, 0, none⟩)]) ∧ Below w.heap.size w w' ∧ w.heap.size < w'.heap.size ∧ w'.cell? ⟨w.heap.size, 0, none⟩ = some (.int .i64 num) := by
  go_enter Try.func45, Try.ntmps45
  go_wp2
  go_ret
  exact ⟨rfl, (Below.refl _ _).alloc (Nat.le_refl _) _, by rw [alloc_size]; omega, by rw [cell_of_row _ _ _ _ _ _ (heap_alloc_new w _)]; rfl⟩
/-- The first place at which a predicate holds, or -1. -/
def idxP (p : Sv → Bool) (vs : List Sv) : Int := match vs.findIdx? p with | some i => (i : Int) | none => -1
theorem idxP_hit {p : Sv → Bool} {vs : List Sv} {k : Nat} {s : Sv} (h : ∀ (j : Nat) (t : Sv), j < k → vs[j]? = some t → p t = false) (hs : vs[k]? = some s) (hp : p s = true) : idxP p vs = k := by
  have : vs.findIdx? p = some k := by
    rw [List.findIdx?_eq_some_iff_getElem]
    obtain ⟨hk, rfl⟩ := List.getElem?_eq_some_iff.1 hs
    exact ⟨hk, hp, fun j hj => by rw [h j _ hj (List.getElem?_eq_getElem (by omega))]; simp⟩
  unfold idxP; rw [this]
theorem idxP_miss {p : Sv → Bool} {vs : List Sv} (h : ∀ (j : Nat) (t : Sv), j < vs.length → vs[j]? = some t → p t = false) : idxP p vs = -1 := by
  have : vs.findIdx? p = none := by
    rw [List.findIdx?_eq_none_iff]
    intro x hx
    obtain ⟨j, hj⟩ := List.mem_iff_getElem?.1 hx
    exact h j x (List.getElem?_eq_some_iff.1 hj).1 hj
  unfold idxP; rw [this]
set_option maxHeartbeats 2000000 in
theorem index_f (g : Nat) (lb : Array Value) (p : Sv → Bool) (eg : Fn g) (A : Option Addr) (n c : Nat) (vs : List Sv) (w : World) (B : Nat) (hsh : Sh w B A n vs) (hB : B ≤ w.heap.size) (hn : (n : Int) ≤ 9223372036854775807) (hp : PredB g lb p w) :
    Calls Try.prog 35 #[.slice A n c, .func (.func g) #[] lb] w fun e w' => e = .returned (.int .i64 (idxP p vs)) ∧ Below w.heap.size w w' := by
  unfold Fn at eg
  have HS : Aside _ := hsh
  have HP : Aside _ := hp
  clear hsh hp
  go_enter Try.func35, Try.ntmps35
  go_wp2
  go_loopg [5, 8] n (fun gg _ s8 wr => ∃ kk : Nat, kk ≤ n ∧ n - kk ≤ gg ∧ s8 = .int .i64 kk ∧ Aside (Below w.heap.size w wr) ∧ Aside (∀ (j : Nat) (t : Sv), j < kk → vs[j]? = some t → p t = false))
  case atStart => exact ⟨0, Nat.zero_le _, by omega, rfl, Below.refl _ w, fun j t hj => absurd hj (Nat.not_lt_zero _)⟩
  case round =>
    obtain ⟨kk, hkk, hg, rfl, BW, HA⟩ := hrel
    by_cases hlt : kk < n
    · have hltz : (kk : Int) < (n : Int) := by omega
      have hsr := HS.out.below' BW.out hB
      obtain ⟨b, off, rfl, hb, _⟩ := hsr.place (by omega)
      obtain ⟨s, hs⟩ := sv_get hsr hlt
      have hr := hsr.range hs
      have hcall := HP.out wr s BW.out
      have HS1 : Aside _ := hs
      clear hsr hs
      obtain ⟨q, hq⟩ : ∃ q, p s = q := ⟨_, rfl⟩
      rw [hq] at hcall
      have HQ := Lib.hid hq
      clear hq
      cases q with
      | true =>
        go_wp2_with (first
          | (refine wpList_load_mid rfl 36 (.tmp 14) rfl b (off + kk * 2) rfl [.int .i64 s.k, .slice s.A s.n s.c] _ hr Try.underlying36 rfl size_opt1 ?_)
          | (go_at_fn g; refine hcall.mono ?_; rintro e w' ⟨rfl, hb'⟩))
        go_ret
        refine ⟨?_, BW.out.trans (hb'.mono BW.out.size)⟩
        exact ret_i (idxP_hit HA.out HS1.out HQ.out).symm
      | false =>
        go_wp2_with (first
          | (refine wpList_load_mid rfl 36 (.tmp 14) rfl b (off + kk * 2) rfl [.int .i64 s.k, .slice s.A s.n s.c] _ hr Try.underlying36 rfl size_opt1 ?_)
          | (go_at_fn g; refine hcall.mono ?_; rintro e w' ⟨rfl, hb'⟩))
        go_roundg (n - (kk + 1))
        case measure => omega
        case rel =>
          refine ⟨kk + 1, by omega, by omega, by go_num, BW.out.trans (hb'.mono BW.out.size), (show Aside _ from fun j t hj ht => ?_)⟩
          by_cases e : j = kk
          · subst e
            have e2 := HS1.out
            rw [ht] at e2
            obtain rfl := Option.some.inj e2
            exact HQ.out
          · exact HA.out j t (by omega) ht
    · have hltz : ¬ (kk : Int) < (n : Int) := by omega
      have : kk = n := by omega
      subst this
      go_wp2
      go_ret
      refine ⟨?_, BW.out⟩
      exact ret_i (idxP_miss fun j t hj ht => HA.out j t (by have := HS.out.len; omega) ht).symm
theorem idxP_any (p : Sv → Bool) (vs : List Sv) : decide (0 ≤ idxP p vs) = vs.any p := by
  unfold idxP
  cases h : vs.findIdx? p with
  | none =>
    rw [List.findIdx?_eq_none_iff] at h
    have : vs.any p = false := by rw [List.any_eq_false]; intro x hx; rw [h x hx]; decide
    rw [this]; rfl
  | some i =>
    rw [List.findIdx?_eq_some_iff_getElem] at h
    obtain ⟨hi, hp, _⟩ := h
    have : vs.any p = true := List.any_eq_true.2 ⟨vs[i], List.getElem_mem hi, hp⟩
    rw [this]
    exact decide_eq_true (by show (0 : Int) ≤ (i : Int); omega)
theorem contains_f (g : Nat) (lb : Array Value) (p : Sv → Bool) (eg : Fn g) (A : Option Addr) (n c : Nat) (vs : List Sv) (w : World) (B : Nat) (hsh : Sh w B A n vs) (hB : B ≤ w.heap.size) (hn : (n : Int) ≤ 9223372036854775807) (hp : PredB g lb p w) :
    Calls Try.prog 83 #[.slice A n c, .func (.func g) #[] lb] w fun e w' => e = .returned (.bool (vs.any p)) ∧ Below w.heap.size w w' := by
  have H := Lib.hid (idxP_any p vs)
  have hcall := index_f g lb p eg A n c vs w B hsh hB hn hp
  clear hsh hp eg
  go_enter Try.func83, Try.ntmps83
  go_wp2_with (go_at_call 35; refine hcall.mono ?_; rintro e w' ⟨rfl, hb'⟩)
  go_ret
  exact ⟨retB H.out, hb'⟩
/-- The error of options that can't be written. -/
def errOf (vs : List Sv) : Int := if 24 < vs.length then 3 else if vs.any (fun s => badNum s.k) = true then 1 else if vs.any (fun s => decide ((300 : Int) < s.n)) = true then 2 else 0
set_option maxHeartbeats 1000000 in
theorem check_f (A : Option Addr) (n c : Nat) (vs : List Sv) (w : World) (B : Nat) (hsh : Sh w B A n vs) (hB : B ≤ w.heap.size) (hn : (n : Int) ≤ 9223372036854775807) :
    Calls Try.prog 68 #[.slice A n c] w fun e w' => e = .returned (.int .i64 (errOf vs)) ∧ Below w.heap.size w w' := by
  have HL := Lib.hid hsh.len
  have k1 := fun W (h : Below w.heap.size w W) => contains_f _ #[] _ fn_c1 A n c vs W B (hsh.below' h hB) (Nat.le_trans hB h.size) hn ((pred_c1 w).later h)
  have k2 := fun W (h : Below w.heap.size w W) => contains_f _ #[] _ fn_c2 A n c vs W B (hsh.below' h hB) (Nat.le_trans hB h.size) hn ((pred_c2 w).later h)
  have K1 : Aside _ := k1
  have K2 : Aside _ := k2
  clear k1 k2 hsh
  by_cases h24 : (24 : Int) < n
  · have hr : errOf vs = 3 := by unfold errOf; rw [if_pos (by rw [HL.out]; omega)]
    have HR := Lib.hid hr
    clear hr
    go_enter Try.func68, Try.ntmps68
    go_wp2
    go_ret
    exact ⟨ret_i HR.out.symm, Below.refl _ _⟩
  · obtain ⟨q1, hq1⟩ : ∃ q, vs.any (fun s => badNum s.k) = q := ⟨_, rfl⟩
    obtain ⟨q2, hq2⟩ : ∃ q, vs.any (fun s => decide ((300 : Int) < s.n)) = q := ⟨_, rfl⟩
    have hr : errOf vs = if q1 = true then 1 else if q2 = true then 2 else 0 := by unfold errOf; rw [if_neg (by rw [HL.out]; omega), hq1, hq2]
    have HR := Lib.hid hr
    have H1 := Lib.hid hq1
    have H2 := Lib.hid hq2
    clear hr hq1 hq2
    go_enter Try.func68, Try.ntmps68
    cases q1 with
    | true =>
      go_wp2_with (go_at_call 83; refine (K1.out w (Below.refl _ _)).mono ?_; rw [H1.out]; rintro e w1 ⟨rfl, b1⟩)
      go_ret
      exact ⟨ret_i HR.out.symm, b1⟩
    | false =>
      go_wp2_with fail
      refine (K1.out w (Below.refl _ _)).mono ?_
      rw [H1.out]
      rintro e w1 ⟨rfl, b1⟩
      cases q2 with
      | true =>
        go_wp2_with (go_at_call 83; refine (K2.out w1 b1).mono ?_; rw [H2.out]; rintro e w2 ⟨rfl, b2⟩)
        go_ret
        exact ⟨ret_i HR.out.symm, b1.trans (b2.mono b1.size)⟩
      | false =>
        go_wp2_with (go_at_call 83; refine (K2.out w1 b1).mono ?_; rw [H2.out]; rintro e w2 ⟨rfl, b2⟩)
        go_ret
        exact ⟨ret_i HR.out.symm, b1.trans (b2.mono b1.size)⟩
end Go.Proofs.Ytfbddldcbjhmiaa
