/-
  Exchanges as they lie: rows of six cells with bytes; the table at its address.
-/
import Derived.Test.YtkhikpbchimodaaCrcWalks
import Derived.Test.YtkhikpbchimodaaRowK
import Derived.Test.YtkhikpbchimodaaRelVar
import Derived.Test.YtkhikpbchimodaaExPure
import Derived.Deep.LoopGhost
import Derived.Deep.QuietTactic
import Derived.BigQuiet
namespace Go.Proofs.Ytkhikpbchimodaa
open Go.RowKit
set_option maxRecDepth 100000
set_option linter.unusedVariables false
/-- An exchange, and where its bytes lie. -/
structure Xr where
  q : Xq
  A : Option Addr
  n : Nat
  c : Nat
def Xr.vals (s : Xr) : List Value := [.int .i64 s.q.t, .int .i64 s.q.i, .slice s.A s.n s.c, .int .i64 (s.q.g : Int), .int .i64 s.q.wt, .int .i64 s.q.u]
def xrK : RowK Xr 6 where
  vals := Xr.vals
  len := fun _ => rfl
  one := fun s u hu => by
    simp only [Xr.vals, List.mem_cons, List.not_mem_nil, or_false] at hu
    rcases hu with rfl | rfl | rfl | rfl | rfl | rfl <;> rfl
  pos := by decide
/-- The document's, whose cells lie in another order. -/
def Xr.ones (s : Xr) : List Value := [.int .i64 s.q.t, .int .i64 s.q.i, .slice s.A s.n s.c, .int .i64 s.q.u, .int .i64 s.q.wt, .int .i64 (s.q.g : Int)]
def onK : RowK Xr 6 where
  vals := Xr.ones
  len := fun _ => rfl
  one := fun s u hu => by
    simp only [Xr.ones, List.mem_cons, List.not_mem_nil, or_false] at hu
    rcases hu with rfl | rfl | rfl | rfl | rfl | rfl <;> rfl
  pos := by decide
/-- What is to be sent, and where its bytes lie. -/
structure Sr where
  q : Sq
  A : Option Addr
  n : Nat
  c : Nat
def Sr.vals (s : Sr) : List Value := [.int .i64 s.q.t, .int .i64 s.q.i, .slice s.A s.n s.c, .bool s.q.lost]
def srK : RowK Sr 4 where
  vals := Sr.vals
  len := fun _ => rfl
  one := fun s u hu => by
    simp only [Sr.vals, List.mem_cons, List.not_mem_nil, or_false] at hu
    rcases hu with rfl | rfl | rfl | rfl <;> rfl
  pos := by decide
/-- Bytes of the call's own. -/
def Ob (w : World) (B : Nat) (A : Option Addr) (n c : Nat) (l : List UInt8) : Prop := w.ownsRow B 5 1 (.slice A n c) n (U8 l) ∧ (n : Int) ≤ 1099511627776
section
variable {w w' : World} {B B' n c : Nat} {A : Option Addr} {l : List UInt8}
theorem Ob.bs (h : Ob w B A n c l) : Bs w w.heap.size A n l := by
  have hl := h.1.1
  rw [U8_length, Nat.mul_one] at hl
  have hb := h.1
  rw [← hl] at hb ⊢
  obtain ⟨A', c', e, _, hbs⟩ := Bs.of_own hb
  injection e with e _ _
  rw [e]; exact hbs
theorem Ob.below (h : Ob w B A n c l) (hb : Below w.heap.size w w') : Ob w' B A n c l := ⟨rk_below h.1 hb, h.2⟩
theorem Ob.mono (h : Ob w B A n c l) (hb : B' ≤ B) : Ob w B' A n c l := ⟨rk_mono h.1 hb, h.2⟩
theorem Ob.len (h : Ob w B A n c l) : l.length = n := by have := h.1.1; rw [U8_length] at this; omega
end
theorem size_xr : (Try.prog.info? 65).map (·.size) = some 6 := by kernel_rfl
theorem info_xr : (Try.prog.info? 65).map (fun i => (i.zero, i.size, i.bytes)) = some (some (.agg #[.int .i64 0, .int .i64 0, .slice none 0 0, .int .i64 0, .int .i64 0, .int .i64 0]), 6, 64) := by kernel_rfl
theorem zero_xr (w : World) : (zeroValue 65).run Try.prog w = .ok (.agg #[.int .i64 0, .int .i64 0, .slice none 0 0, .int .i64 0, .int .i64 0, .int .i64 0]) w := by kernel_rfl
theorem xr_cells {w : World} {b o : Nat} {s : Xr} (h : w.rangeAt b o (xrK.vals s)) : w.cell? ⟨b, o, none⟩ = some (.int .i64 s.q.t) ∧ w.cell? ⟨b, o + 1, none⟩ = some (.int .i64 s.q.i) ∧ w.cell? ⟨b, o + 2, none⟩ = some (.slice s.A s.n s.c) ∧ w.cell? ⟨b, o + 3, none⟩ = some (.int .i64 (s.q.g : Int)) ∧ w.cell? ⟨b, o + 4, none⟩ = some (.int .i64 s.q.wt) ∧ w.cell? ⟨b, o + 5, none⟩ = some (.int .i64 s.q.u) :=
  ⟨h 0 _ rfl, h 1 _ rfl, h 2 _ rfl, h 3 _ rfl, h 4 _ rfl, h 5 _ rfl⟩
/-- The table at its address; what it has lies from block tb on. -/
structure TbAt (w : World) (tb : Nat) (v : Value) (now : Int) (vs : List Xr) : Prop where
  blk : w.heap[tb]? = some (.cells #[v, .int .i64 now] 61)
  row : w.ownsRow tb 65 6 v vs.length (xrK.all vs)
  each : ∀ s ∈ vs, Ob w tb s.A s.n s.c s.q.l
  good : XGood (vs.map Xr.q)
  nw : 0 ≤ now ∧ now ≤ 1099511627776
section
variable {w w' : World} {tb : Nat} {v : Value} {now : Int} {vs : List Xr}
theorem TbAt.lt (h : TbAt w tb v now vs) : tb < w.heap.size := (Array.getElem?_eq_some_iff.1 h.blk).1
theorem TbAt.below (h : TbAt w tb v now vs) (hb : Below w.heap.size w w') : TbAt w' tb v now vs :=
  ⟨(hb.block tb h.lt).trans h.blk, rk_below h.row hb, fun s hs => (h.each s hs).below hb, h.good, h.nw⟩
theorem TbAt.cell0 (h : TbAt w tb v now vs) : w.cell? ⟨tb, 0, none⟩ = some v := by rw [cell_of_row _ _ _ _ _ _ h.blk]; rfl
theorem TbAt.cell1 (h : TbAt w tb v now vs) : w.cell? ⟨tb, 1, none⟩ = some (.int .i64 now) := by rw [cell_of_row _ _ _ _ _ _ h.blk]; rfl
theorem TbAt.fz (h : TbAt w tb v now vs) (k : Nat) : w.frozen? ⟨tb, k, none⟩ = false := by simp [World.frozen?, h.blk]
theorem TbAt.few (h : TbAt w tb v now vs) : vs.length ≤ 4 := by have := h.good.few; rwa [List.length_map] at this
theorem TbAt.open_ (h : TbAt w tb v now vs) : ∃ A c, v = .slice A vs.length c ∧ vs.length ≤ c ∧ c ≤ maxLen ∧ xrK.At w w.heap.size A vs.length vs ∧ ∀ a, A = some a → ∃ g, a = ⟨g, 0, none⟩ ∧ tb ≤ g := RowK.At.of_own h.row
theorem TbAt.qok (h : TbAt w tb v now vs) {s : Xr} (hs : s ∈ vs) : XOk s.q := h.good.ok s.q (List.mem_map_of_mem hs)
theorem TbAt.row_ne (h : TbAt w tb v now vs) : v.ownBlock ≠ some tb := rk_ne h.row h.blk (by decide)
end
theorem exnew_f (w : World) : Calls Try.prog 9 #[] w fun e w' => e = .returned (.pointer (some ⟨w.heap.size, 0, none⟩)) ∧ TbAt w' w.heap.size (.slice none 0 0) 0 [] ∧ Below w.heap.size w w' ∧ w'.heap.size = w.heap.size + 1 := by
  have hj : TbAt (w.alloc (.cells #[.slice none 0 0, .int .i64 0] 61)) w.heap.size (.slice none 0 0) 0 [] :=
    ⟨heap_alloc_new w _, World.ownsRow_nil _ _ _ _, (fun s hs => by cases hs), XGood.nil, by decide⟩
  have HJ := Lib.hid hj
  clear hj
  go_enter Try.func9, Try.ntmps9
  go_wp2
  go_ret
  exact ⟨rfl, HJ.out, alloc_below _ _, alloc_size _ _⟩
theorem exlater_f (a b : Int) (w : World) (ha : 0 ≤ a ∧ a ≤ 1099511627776) (hb : 0 ≤ b ∧ b ≤ 1099511627776) : Calls Try.prog 28 #[.int .i64 a, .int .i64 b] w fun e w' => e = .returned (.int .i64 (addT a b)) ∧ w' = w := by
  have hm : min (a + b) 1099511627776 = addT a b := rfl
  obtain ⟨a0, a1⟩ := ha
  obtain ⟨b0, b1⟩ := hb
  generalize addT a b = q at *
  go_enter Try.func28, Try.ntmps28
  go_wp2
  go_ret
  exact ⟨rfl, rfl⟩
theorem exlen_f {tb : Nat} {v : Value} {now : Int} {vs : List Xr} {w : World} (h : TbAt w tb v now vs) : Calls Try.prog 21 #[.pointer (some ⟨tb, 0, none⟩)] w fun e w' => e = .returned (.int .i64 (vs.length : Int)) ∧ w' = w := by
  obtain ⟨A, c, rfl, _⟩ := h.open_
  have c0 := h.cell0
  clear h
  generalize vs.length = n at *
  go_enter Try.func21, Try.ntmps21
  go_wp2
  go_ret
  exact ⟨rfl, rfl⟩
/-- Bytes of the call's own stand under what turns a table and its row. -/
theorem Ob.fx {w w' : World} {tb B n c m k : Nat} {A : Option Addr} {l : List UInt8} {v u : Value} {now : Int} {xs : List Value} (h : Ob w B A n c l) (hf : Fx tb v.ownBlock w w') (hb : w.heap[tb]? = some (.cells #[u, .int .i64 now] 61)) (hr : w.ownsRow k 65 6 v m xs) : Ob w' B A n c l :=
  ⟨hf.row_ h.1 (rk_ne h.1 hb (by decide)) (rk_apart h.1 hr (by decide)), h.2⟩
theorem extell_f {tb : Nat} {v : Value} {now : Int} {vs : List Xr} {w : World} (h : TbAt w tb v now vs) (x : Int) : Calls Try.prog 26 #[.pointer (some ⟨tb, 0, none⟩), .int .i64 x] w fun e w' => e = .returned (.tuple #[]) ∧ TbAt w' tb v (tellT now x) vs ∧ Fx tb none w w' := by
  have c1 := h.cell1
  have f1 := h.fz 1
  have hA : TbAt (w.setCell ⟨tb, 1, none⟩ (.int .i64 (tellT now x))) tb v (tellT now x) vs :=
    ⟨heap_setCell_same w tb 1 _ 61 _ h.blk, (Fx.store (tb := tb) w 1 _).row_ h.row h.row_ne (own_no _), (fun s hs => (h.each s hs).fx (v := .slice none 0 0) (Fx.store w 1 _) h.blk (World.ownsRow_nil w tb _ _)), h.good, tellT_in h.nw⟩
  have HB := Lib.hid (And.intro hA (Fx.store (tb := tb) w 1 (.int .i64 (tellT now x))))
  clear hA h
  have hm : max now (min x 1099511627776) = tellT now x := rfl
  generalize tellT now x = q at *
  obtain ⟨y, hy⟩ : ∃ y, min x 1099511627776 = y := ⟨_, rfl⟩
  rw [hy] at hm
  go_enter Try.func26, Try.ntmps26
  go_wp2
  go_end0
  exact ⟨rfl, HB.out.1, HB.out.2⟩
theorem exclear_f {tb : Nat} {v : Value} {now : Int} {vs : List Xr} {w : World} (h : TbAt w tb v now vs) : Calls Try.prog 18 #[.pointer (some ⟨tb, 0, none⟩)] w fun e w' => e = .returned (.tuple #[]) ∧ TbAt w' tb (.slice none 0 0) now [] ∧ Fx tb none w w' := by
  obtain ⟨A, c, rfl, _⟩ := h.open_
  have c0 := h.cell0
  have f0 := h.fz 0
  have hA : TbAt (w.setCell ⟨tb, 0, none⟩ (.slice none 0 0)) tb (.slice none 0 0) now [] :=
    ⟨heap_setCell_same w tb 0 _ 61 _ h.blk, World.ownsRow_nil _ _ _ _, (fun s hs => by cases hs), XGood.nil, h.nw⟩
  have HB := Lib.hid (And.intro hA (Fx.store (tb := tb) w 0 (.slice none 0 0)))
  clear hA h
  generalize vs.length = n at *
  go_enter Try.func18, Try.ntmps18
  go_wp2
  go_end0
  exact ⟨rfl, HB.out.1, HB.out.2⟩
/-- The closure that looks for an exchange. -/
theorem exfind1_f (b1 b2 : Nat) (t i : Int) (s : Xr) (w : World) (h1 : b1 < w.heap.size) (h2 : b2 < w.heap.size) (c1 : w.cell? ⟨b1, 0, none⟩ = some (.int .i64 t)) (c2 : w.cell? ⟨b2, 0, none⟩ = some (.int .i64 i)) :
    Calls Try.prog 36 #[.agg #[.int .i64 s.q.t, .int .i64 s.q.i, .slice s.A s.n s.c, .int .i64 (s.q.g : Int), .int .i64 s.q.wt, .int .i64 s.q.u], .pointer (some ⟨b1, 0, none⟩), .pointer (some ⟨b2, 0, none⟩)] w fun e w' => e = .returned (.bool (hitX t i s.q)) ∧ Below w.heap.size w w' := by
  obtain ⟨⟨qt, qi, ql, qg, qw, qu⟩, A, n, c⟩ := s
  unfold hitX
  dsimp only
  generalize (qg : Int) = gg
  by_cases hf : qt = t
  · have hq : (qt == t) = true := by rw [hf]; exact beq_self_eq_true _
    rw [hq]
    go_enter Try.func36, Try.ntmps36
    go_wp2
    go_ret
    exact ⟨rfl, alloc_below _ _⟩
  · have hq : (qt == t) = false := beq_eq_false_iff_ne.2 hf
    rw [hq]
    go_enter Try.func36, Try.ntmps36
    go_wp2
    go_ret
    exact ⟨rfl, alloc_below _ _⟩
theorem ret_i6 {a b : Int} (h : a = b) : Ending.returned (.int .i64 a) = .returned (.int .i64 b) := by rw [h]
/-- The first place at which a predicate holds, or -1. -/
def idxX (p : Xq → Bool) (qs : List Xq) : Int := match qs.findIdx? p with | some i => (i : Int) | none => -1
theorem idxX_hit {p : Xq → Bool} {qs : List Xq} {k : Nat} {s : Xq} (h : ∀ (j : Nat) (t : Xq), j < k → qs[j]? = some t → p t = false) (hs : qs[k]? = some s) (hp : p s = true) : idxX p qs = k := by
  have : qs.findIdx? p = some k := by
    rw [List.findIdx?_eq_some_iff_getElem]
    obtain ⟨hk, rfl⟩ := List.getElem?_eq_some_iff.1 hs
    exact ⟨hk, hp, fun j hj => by rw [h j _ hj (List.getElem?_eq_getElem (by omega))]; simp⟩
  unfold idxX; rw [this]
theorem idxX_miss {p : Xq → Bool} {qs : List Xq} (h : ∀ (j : Nat) (t : Xq), j < qs.length → qs[j]? = some t → p t = false) : idxX p qs = -1 := by
  have : qs.findIdx? p = none := by
    rw [List.findIdx?_eq_none_iff]
    intro x hx
    obtain ⟨j, hj⟩ := List.mem_iff_getElem?.1 hx
    exact h j x (List.getElem?_eq_some_iff.1 hj).1 hj
  unfold idxX; rw [this]
theorem idxX_cases (p : Xq → Bool) (qs : List Xq) : (idxX p qs = -1 ∧ qs.any p = false) ∨ ∃ (k : Nat) (s : Xq), idxX p qs = k ∧ qs[k]? = some s ∧ p s = true ∧ qs.any p = true := by
  unfold idxX
  cases h : qs.findIdx? p with
  | none =>
    rw [List.findIdx?_eq_none_iff] at h
    exact .inl ⟨rfl, List.any_eq_false.2 fun x hx => by rw [h x hx]; decide⟩
  | some i =>
    rw [List.findIdx?_eq_some_iff_getElem] at h
    obtain ⟨hi, hp, hh⟩ := h
    exact .inr ⟨i, qs[i], rfl, List.getElem?_eq_getElem hi, hp, List.any_eq_true.2 ⟨_, List.getElem_mem hi, hp⟩⟩
set_option maxHeartbeats 2000000 in
theorem exindex_f (b1 b2 : Nat) (t i : Int) (A : Option Addr) (n c : Nat) (vs : List Xr) (w : World) (hsh : xrK.At w w.heap.size A n vs) (hn : (n : Int) ≤ 4) (h1 : b1 < w.heap.size) (h2 : b2 < w.heap.size) (c1 : w.cell? ⟨b1, 0, none⟩ = some (.int .i64 t)) (c2 : w.cell? ⟨b2, 0, none⟩ = some (.int .i64 i)) :
    Calls Try.prog 35 #[.slice A n c, .func (.func 36) #[] #[.pointer (some ⟨b1, 0, none⟩), .pointer (some ⟨b2, 0, none⟩)]] w fun e w' => e = .returned (.int .i64 (idxX (hitX t i) (vs.map Xr.q))) ∧ Below w.heap.size w w' := by
  have HS : Aside _ := hsh
  have HC := Lib.hid (And.intro c1 c2)
  have eg : ∀ args w, (callFunc 36 args).run Try.prog w = .ok (.enter 36 args) w := enters_of Try.func36 (by kernel_rfl) rfl
  clear hsh c1 c2
  go_enter Try.func35, Try.ntmps35
  go_wp2
  go_loopg [5, 8] n (fun gg _ s8 wr => ∃ kk : Nat, kk ≤ n ∧ n - kk ≤ gg ∧ s8 = .int .i64 kk ∧ Aside (Below w.heap.size w wr) ∧ Aside (∀ (j : Nat) (q : Xq), j < kk → (vs.map Xr.q)[j]? = some q → hitX t i q = false))
  case atStart => exact ⟨0, Nat.zero_le _, by omega, rfl, Below.refl _ w, fun j t hj => absurd hj (Nat.not_lt_zero _)⟩
  case round =>
    obtain ⟨kk, hkk, hg, rfl, BW, HA⟩ := hrel
    by_cases hlt : kk < n
    · have hltz : (kk : Int) < (n : Int) := by omega
      have hsr := HS.out.below BW.out
      obtain ⟨b, off, rfl, hb, _⟩ := hsr.place (by omega)
      obtain ⟨s, hs⟩ := hsr.get hlt
      have hr := hsr.range hs
      simp only [xrK, Xr.vals] at hr
      have hcall := fun W (hb : Below wr.heap.size wr W) => exfind1_f b1 b2 t i s W (Nat.lt_of_lt_of_le h1 (Nat.le_trans BW.out.size hb.size)) (Nat.lt_of_lt_of_le h2 (Nat.le_trans BW.out.size hb.size)) (((BW.out.trans (hb.mono BW.out.size)).cell (p := ⟨b1, 0, none⟩) h1).trans HC.out.1) (((BW.out.trans (hb.mono BW.out.size)).cell (p := ⟨b2, 0, none⟩) h2).trans HC.out.2)
      have HS1 : Aside _ := hs
      clear hsr hs
      obtain ⟨q, hq⟩ : ∃ q, hitX t i s.q = q := ⟨_, rfl⟩
      rw [hq] at hcall
      have HQ := Lib.hid hq
      clear hq
      cases q with
      | true =>
        go_wp2_with (first
          | (refine wpList_load_mid rfl 65 (.tmp 14) rfl b (off + kk * 6) rfl [.int .i64 s.q.t, .int .i64 s.q.i, .slice s.A s.n s.c, .int .i64 (s.q.g : Int), .int .i64 s.q.wt, .int .i64 s.q.u] _ hr Try.underlying65 rfl size_xr ?_)
          | (go_at_fn 36; refine (hcall _ (Below.refl _ _)).mono ?_; rintro e w' ⟨rfl, hb'⟩))
        go_ret
        refine ⟨?_, BW.out.trans (hb'.mono BW.out.size)⟩
        exact ret_i6 (idxX_hit HA.out (by rw [List.getElem?_map, HS1.out]; rfl) HQ.out).symm
      | false =>
        go_wp2_with (first
          | (refine wpList_load_mid rfl 65 (.tmp 14) rfl b (off + kk * 6) rfl [.int .i64 s.q.t, .int .i64 s.q.i, .slice s.A s.n s.c, .int .i64 (s.q.g : Int), .int .i64 s.q.wt, .int .i64 s.q.u] _ hr Try.underlying65 rfl size_xr ?_)
          | (go_at_fn 36; refine (hcall _ (Below.refl _ _)).mono ?_; rintro e w' ⟨rfl, hb'⟩))
        go_roundg (n - (kk + 1))
        case measure => omega
        case rel =>
          refine ⟨kk + 1, by omega, by omega, by go_num, BW.out.trans (hb'.mono BW.out.size), (show Aside _ from fun j t hj ht => ?_)⟩
          by_cases e : j = kk
          · subst e
            rw [List.getElem?_map, HS1.out] at ht
            obtain rfl := Option.some.inj ht
            exact HQ.out
          · exact HA.out j t (by omega) ht
    · have hltz : ¬ (kk : Int) < (n : Int) := by omega
      have : kk = n := by omega
      subst this
      go_wp2
      go_ret
      refine ⟨?_, BW.out⟩
      exact ret_i6 (idxX_miss fun j t hj ht => HA.out j t (by rw [List.length_map, HS.out.len] at hj; exact hj) ht).symm
end Go.Proofs.Ytkhikpbchimodaa
