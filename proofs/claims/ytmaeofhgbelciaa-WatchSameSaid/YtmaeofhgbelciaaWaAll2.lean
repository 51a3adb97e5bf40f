/-
  All watches.
-/
import Derived.Test.YtmaeofhgbelciaaWaAll
namespace Go.Proofs.Ytmaeofhgbelciaa
open Go.RowKit
set_option maxRecDepth 100000
set_option maxRecDepth 100000
set_option linter.unusedVariables false
theorem build_wr (a : Act) (s : Wr) (x : Operand) (hx : a.eval x = .agg s.vals.toArray) (i0 : TypeInfo) (hz0 : i0.zero = some (.agg #[.int .i64 0, .slice none 0 0, .slice none 0 0, .int .i64 0, .int .i64 0, .bool false, .bool false, .int .i64 0, .int .i64 0, .int .i64 0, .bool false, .bool false, .bool false, .int .i64 0, .int .i64 0, .string ⟨#[]⟩, .slice none 0 0, .int .i64 0, .int .i64 0, .int .i64 0, .int .i64 0])) (hz1 : i0.size = 21) :
    Instr.fill (fun i => some (i * i0.size, i0.size)) ((Array.range (1 * i0.size)).map ((Value.agg #[.int .i64 0, .slice none 0 0, .slice none 0 0, .int .i64 0, .int .i64 0, .bool false, .bool false, .int .i64 0, .int .i64 0, .int .i64 0, .bool false, .bool false, .bool false, .int .i64 0, .int .i64 0, .string ⟨#[]⟩, .slice none 0 0, .int .i64 0, .int .i64 0, .int .i64 0, .int .i64 0]).cells[· % (Value.agg #[.int .i64 0, .slice none 0 0, .slice none 0 0, .int .i64 0, .int .i64 0, .bool false, .bool false, .int .i64 0, .int .i64 0, .int .i64 0, .bool false, .bool false, .bool false, .int .i64 0, .int .i64 0, .string ⟨#[]⟩, .slice none 0 0, .int .i64 0, .int .i64 0, .int .i64 0, .int .i64 0]).cells.size]!)) ((#[(0, x)] : Array (Nat × Operand)).map fun (i, x) => (i, a.eval x)).toList = some s.vals.toArray := by
  rw [hz1]
  rw [show ((#[(0, x)] : Array (Nat × Operand)).map fun (i, x) => (i, a.eval x)).toList = [(0, a.eval x)] by simp, hx]
  have h := Great.fill_whole (s := 21) (by decide) [Value.agg s.vals.toArray] ((Array.range (1 * 21)).map ((Value.agg #[.int .i64 0, .slice none 0 0, .slice none 0 0, .int .i64 0, .int .i64 0, .bool false, .bool false, .int .i64 0, .int .i64 0, .int .i64 0, .bool false, .bool false, .bool false, .int .i64 0, .int .i64 0, .string ⟨#[]⟩, .slice none 0 0, .int .i64 0, .int .i64 0, .int .i64 0, .int .i64 0]).cells[· % (Value.agg #[.int .i64 0, .slice none 0 0, .slice none 0 0, .int .i64 0, .int .i64 0, .bool false, .bool false, .int .i64 0, .int .i64 0, .int .i64 0, .bool false, .bool false, .bool false, .int .i64 0, .int .i64 0, .string ⟨#[]⟩, .slice none 0 0, .int .i64 0, .int .i64 0, .int .i64 0, .int .i64 0]).cells.size]!)) (fun v hv => by obtain rfl := List.mem_singleton.1 hv; rfl) (by simp)
  have e : ([Value.agg s.vals.toArray].flatMap fun v => v.cells.toList).toArray = s.vals.toArray := by
    simp [Value.cells]
  rw [e] at h
  exact h
set_option maxHeartbeats 8000000 in
theorem wall_f {tb : Nat} {v : Value} {vs : List Wr} {w : World} (h : WtAt w tb v vs) :
    Calls Try.prog 29 #[.pointer (some ⟨tb, 0, none⟩)] w fun e w' => ∃ A n c X, e = .returned (.slice A n c) ∧ ToldAt w' w.heap.size A n c X ∧ X.map Wr.q = vs.map Wr.q ∧ Below w.heap.size w w' := by
  obtain ⟨A0, cc, rfl, hc, hm, hat, _⟩ := h.open_
  obtain ⟨i0, hi0, hz0, hz1, hz2⟩ := info_parts info_wr
  have c0 := h.cell0
  have hfew := h.few
  have he := fun W (hW : Below w.heap.size w W) s hs => (h.below hW).each s hs
  obtain ⟨n, hn⟩ : ∃ n, vs.length = n := ⟨_, rfl⟩
  rw [hn] at hat hfew c0 hc
  have hnI : (n : Int) ≤ 6 := by omega
  have HH := Lib.hid (And.intro hat (And.intro he hn))
  clear h hat he hn
  go_enter Try.func29, Try.ntmps29
  go_wp2
  go_loopw [3, 11] (fun v3 v11 wr => ∃ (k c' : Nat) (A' : Option Addr), k ≤ n ∧ v11 = .int .i64 (k : Int) ∧ v3 = .slice A' k c' ∧ Aside (∃ X, ToldAt wr w.heap.size A' k c' X ∧ X.map Wr.q = (vs.take k).map Wr.q ∧ Below w.heap.size w wr)) (fun _ v11 _ => n - (intOf v11).toNat)
  case atStart => exact ⟨0, 0, none, Nat.zero_le _, rfl, rfl, (show Aside _ from ⟨[], ⟨World.ownsRow_nil _ _ _ _, fun s hs => by cases hs⟩, rfl, Below.refl _ _⟩)⟩
  case round =>
    obtain ⟨k, c', A', hk, rfl, rfl, hrel⟩ := hrel
    obtain ⟨X, hX, hXq, hbw⟩ := hrel.out
    clear hrel
    by_cases hlt : k < n
    · have hsr := HH.out.1.below hbw
      obtain ⟨b, off, rfl, hbb, _⟩ := hsr.place (by omega)
      obtain ⟨s, hs⟩ := hsr.get hlt
      have hrg : wr.rangeAt b (off + k * 21) s.vals := hsr.range hs
      have hes := HH.out.2.1 wr hbw s (List.mem_of_getElem? hs)
      have hltI : (k : Int) < n := by omega
      have hal := alloc_below wr (.cells #[.int .i64 0, .slice none 0 0, .slice none 0 0, .int .i64 0, .int .i64 0, .bool false, .bool false, .int .i64 0, .int .i64 0, .int .i64 0, .bool false, .bool false, .bool false, .int .i64 0, .int .i64 0, .string ⟨#[]⟩, .slice none 0 0, .int .i64 0, .int .i64 0, .int .i64 0, .int .i64 0] 37)
      have hthn : (wr.alloc (.cells #[.int .i64 0, .slice none 0 0, .slice none 0 0, .int .i64 0, .int .i64 0, .bool false, .bool false, .int .i64 0, .int .i64 0, .int .i64 0, .bool false, .bool false, .bool false, .int .i64 0, .int .i64 0, .string ⟨#[]⟩, .slice none 0 0, .int .i64 0, .int .i64 0, .int .i64 0, .int .i64 0] 37)).there wr.heap.size 0 21 := there_new wr _ _ rfl
      have hall := hal.trans (below_setCells (Below.refl wr.heap.size (wr.alloc (.cells #[.int .i64 0, .slice none 0 0, .slice none 0 0, .int .i64 0, .int .i64 0, .bool false, .bool false, .int .i64 0, .int .i64 0, .int .i64 0, .bool false, .bool false, .bool false, .int .i64 0, .int .i64 0, .string ⟨#[]⟩, .slice none 0 0, .int .i64 0, .int .i64 0, .int .i64 0, .int .i64 0] 37))) (b := wr.heap.size) (Nat.le_refl _) s.vals 0)
      have hr9 : ((wr.alloc (.cells #[.int .i64 0, .slice none 0 0, .slice none 0 0, .int .i64 0, .int .i64 0, .bool false, .bool false, .int .i64 0, .int .i64 0, .int .i64 0, .bool false, .bool false, .bool false, .int .i64 0, .int .i64 0, .string ⟨#[]⟩, .slice none 0 0, .int .i64 0, .int .i64 0, .int .i64 0, .int .i64 0] 37)).setCells wr.heap.size 0 s.vals).rangeAt wr.heap.size 0 s.vals := range_stored hthn
      have hcl := fun W (hW : Below wr.heap.size wr W) => wclone_f s W _ ((hes.1.rd.up hW)) (Nat.le_refl _) hes.2.1
      have hstep : (vs.take (k + 1)).map Wr.q = (vs.take k).map Wr.q ++ [s.q] := by rw [List.take_add_one, hs, List.map_append]; rfl
      have HA := Lib.hid (And.intro hall hr9)
      have HC := Lib.hid (And.intro hcl (And.intro hstep (And.intro hX (And.intro hXq (And.intro hbw hbw.size)))))
      clear hal hall hr9 hcl hstep hes hs hsr hX hXq hbw
      go_wp2_with (first
        | (refine wpList_load_mid rfl 37 (.tmp 13) rfl b (off + k * 21) rfl s.vals _ hrg Try.underlying37 rfl size_wr ?_)
        | (refine wpList_store_mid rfl 37 (.tmp 5) (.tmp 14) rfl wr.heap.size 0 s.vals.toArray rfl rfl hthn size_wr (all_oneCell_toArray (wK.one s)) ?_
           refine gen_world (F := fun W => wpList Try.prog _ _ _ _ W) (fun W => Below wr.heap.size wr W ∧ W.rangeAt wr.heap.size 0 s.vals) HA.out ?_
           rintro w9 ⟨b9, r9⟩)
        | (refine wpList_load_mid rfl 37 (.tmp 5) rfl wr.heap.size 0 rfl s.vals _ r9 Try.underlying37 rfl size_wr ?_)
        | (go_at_call 34; refine (HC.out.1 _ b9).mono ?_; rintro e w3 ⟨s', rfl, hq', hok', hsm', b3⟩; have H3 := Lib.hid (And.intro hq' (And.intro (hok'.mono b9.size) (And.intro hsm' (And.intro b3 (b9.trans (b3.mono b9.size)))))); clear hq' hok' hsm' b3)
        | (refine wpList_buildSlice rfl 38 37 1 #[(0, .tmp 17)] rfl s'.vals.toArray i0 _ Try.underlying38 hi0 hz0 (by rw [hz1]; decide) (by rw [hz1]; decide) (build_wr _ s' _ rfl i0 hz0 hz1) ?_)
        | (at_builtin; go_loud (refine wK.append_one w3 rfl (.tmp 15) (.tmp 18) 38 rfl w.heap.size 37 i0 _ 200 Try.underlying38 hi0 hz0 hz1 hz2 rfl (.slice A' k c') k X rfl (rk_below HC.out.2.2.1.row H3.out.2.2.2.2) s' s'.vals.toArray rfl _ rfl (by omega) (by unfold maxLen; omega) (by have := HC.out.2.2.2.2.2; have := H3.out.2.2.2.2.size; omega) ?_); intro A6 c6 w6 hown6 hgr6; have H6 := Lib.hid (And.intro hown6 hgr6); clear hown6 hgr6))
      go_roundw
      case rel => exact ⟨k + 1, c6, A6, by omega, by go_num, rfl, (show Aside _ from ⟨X ++ [s'], HC.out.2.2.1.push H3.out.2.2.2.2 HC.out.2.2.2.2.2 H3.out.2.1 H3.out.2.2.1 H6.out.1 H6.out.2, by rw [List.map_append, HC.out.2.2.2.1, HC.out.2.1, ← H3.out.1]; rfl, rk_in' (HC.out.2.2.2.2.1.trans (((H3.out.2.2.2.2).trans ((alloc_below w3 _).mono H3.out.2.2.2.2.size)).mono HC.out.2.2.2.2.2)) ((rk_below HC.out.2.2.1.row H3.out.2.2.2.2).alloc _) H6.out.2 (by have := HC.out.2.2.2.2.2; have := H3.out.2.2.2.2.size; rw [alloc_size]; omega)⟩)⟩
      case measure => simp [intOf]; omega
    · obtain rfl : k = n := by omega
      have hltI : ¬ (k : Int) < k := by omega
      rw [List.take_of_length_le (by have := HH.out.2.2; omega)] at hXq
      have HX := Lib.hid (And.intro hX (And.intro hXq hbw))
      clear hX hXq hbw hlt
      go_wp2
      go_ret
      exact ⟨_, _, _, rfl, X, HX.out.1, HX.out.2.1, HX.out.2.2⟩
end Go.Proofs.Ytmaeofhgbelciaa
