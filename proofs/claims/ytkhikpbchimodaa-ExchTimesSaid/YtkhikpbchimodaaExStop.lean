/-
  Exchanges: one is stopped.
-/
import Derived.Test.YtkhikpbchimodaaExStep
namespace Go.Proofs.Ytkhikpbchimodaa
open Go.RowKit
set_option maxRecDepth 100000
set_option linter.unusedVariables false
def StopPost (w : World) (tb : Nat) (v : Value) (now : Int) (qs : List Xq) (t i : Int) (e : Ending) (w' : World) : Prop :=
  e = .returned (.bool (qs.any (hitX t i))) ∧ ∃ v' vs', TbAt w' tb v' now vs' ∧ vs'.map Xr.q = stopQ qs t i ∧ v'.ownBlock = v.ownBlock ∧ Fx tb v.ownBlock w w'
theorem exstop_f {tb : Nat} {v : Value} {now : Int} {vs : List Xr} {w : World} (h : TbAt w tb v now vs) (t i : Int) : Calls Try.prog 12 #[.pointer (some ⟨tb, 0, none⟩), .int .i64 t, .int .i64 i] w (StopPost w tb v now (vs.map Xr.q) t i) := by
  have hc := exfind_f h t i
  rcases idxX_cases (hitX t i) (vs.map Xr.q) with ⟨h1, h2⟩ | ⟨k, q, h1, hk, hp, h2⟩
  · rw [h1] at hc
    have hs := stop_none h2
    have hP : ∀ w', Below w.heap.size w w' → StopPost w tb v now (vs.map Xr.q) t i (.returned (.bool false)) w' := fun w' hb =>
      ⟨by rw [h2], v, vs, h.below hb, hs.symm, rfl, Fx.below hb⟩
    have HC := Lib.hid hc
    have HP := Lib.hid hP
    clear hc h1 h2 hs hP h
    go_enter Try.func12, Try.ntmps12
    go_wp2_with fail
    refine HC.out.mono ?_
    rintro e w1 ⟨rfl, b1⟩
    have H1 := Lib.hid (HP.out w1 b1)
    clear b1
    go_wp2
    go_ret
    exact H1.out
  · rw [h1] at hc
    have hkl : k < vs.length := by have := (List.getElem?_eq_some_iff.1 hk).1; rwa [List.length_map] at this
    have hs := stop_erase h.good.one hk hp
    have hP : ∀ w' w2, Below w.heap.size w w' → ∀ v', TbAt w2 tb v' now (vs.eraseIdx k) ∧ v'.ownBlock = v.ownBlock ∧ Fx tb v.ownBlock w' w2 → StopPost w tb v now (vs.map Xr.q) t i (.returned (.bool true)) w2 := fun w' w2 hb v' ⟨a, b, c⟩ =>
      ⟨by rw [h2], v', _, a, by rw [hs]; exact map_erase _ _ _, b, (Fx.below hb).trans c⟩
    have HC := Lib.hid hc
    have HP := Lib.hid hP
    have HH := Lib.hid h
    have hkn : ¬ (k : Int) < 0 := by omega
    clear hc h1 h2 hs hP hk hp h
    go_enter Try.func12, Try.ntmps12
    go_wp2_with fail
    refine HC.out.mono ?_
    rintro e w1 ⟨rfl, b1⟩
    have hcall := exend_f (HH.out.below b1) k hkl
    have H1 := Lib.hid b1
    have HE := Lib.hid hcall
    clear b1 hcall
    go_wp2_with fail
    refine HE.out.mono ?_
    rintro e w2 ⟨rfl, v2, h2⟩
    have H2 := Lib.hid (HP.out w1 w2 H1.out v2 h2)
    clear h2
    go_wp2
    go_ret
    exact H2.out
end Go.Proofs.Ytkhikpbchimodaa
