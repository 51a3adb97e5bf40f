/-
  The document's bytes of a head.
-/
import Derived.Test.YtiieianbmldnbaaDoorImgRefName
import Derived.Test.YtiieianbmldnbaaDoorImgWrite
import Derived.Test.YtiieianbmldnbaaDoorRelDone
import Derived.Deep.AppendLies
import Derived.Test.YtiieianbmldnbaaDoorCrcOps
namespace Go.Proofs.YtiieianbmldnbaaDoor
open Go.RowKit
set_option maxRecDepth 100000
set_option maxRecDepth 100000
theorem rright_any (w : World) (v sz : Int) (nm : ByteArray) (d : List UInt8) (hd : d.length = 32) :
    Calls Tryd.prog 15 #[.agg (Hv v sz nm d).toArray] w fun e w' => e = .returned (.bool (rightH sz nm)) ∧ Below w.heap.size w w' := by
  obtain ⟨W, hW⟩ : ∃ W, W = w.alloc (.cells (Hv v sz nm d).toArray 33) := ⟨_, rfl⟩
  have hH : HdAt W w.heap.size v sz nm d := hW ▸ HdAt.new_ w 33 v sz nm d hd
  have hB : Below w.heap.size w W := hW ▸ alloc_below w _
  have h1 := hH.c1
  have h2 := hH.c2
  have hnm := fun w => rnamed_any w nm
  have Hr := Lib.hid (show rightH sz nm = (named nm.data.toList && (decide (0 ≤ sz) && decide (sz ≤ 1048576))) from rfl)
  generalize named nm.data.toList = nb at hnm Hr
  generalize rightH sz nm = r at Hr ⊢
  clear hH
  go_enter Tryd.func15, Tryd.ntmps15
  go_wp2_with (refine Great.wpList_boxTo rfl 33 _ rfl (some 1) rfl w.heap.size rfl (Hv v sz nm d).toArray rfl ?_; rw [← hW]; clear hW)
  refine (hnm W).mono ?_
  rintro e w2 ⟨rfl, hw⟩
  obtain rfl := hw.symm
  cases nb with
  | false =>
    go_wp2
    go_ret
    exact ⟨by rw [Hr.out]; rfl, hB⟩
  | true =>
    by_cases hz : 0 ≤ sz
    · go_wp2
      go_ret
      exact ⟨by rw [Hr.out, decide_eq_true hz]; rfl, hB⟩
    · go_wp2
      go_ret
      exact ⟨by rw [Hr.out, decide_eq_false (show ¬ 0 ≤ sz by omega)]; rfl, hB⟩
theorem size33h : (Tryd.prog.info? 33).map (·.size) = some 35 := by kernel_rfl
theorem rwrite_no (w : World) (v sz : Int) (nm : ByteArray) (d : List UInt8) (hd : d.length = 32) (hr : rightH sz nm = false) :
    Calls Tryd.prog 10 #[.agg (Hv v sz nm d).toArray] w fun e w' => e = .returned (.tuple #[.slice none 0 0, .int .i64 1]) ∧ Below w.heap.size w w' := by
  obtain ⟨W, hW⟩ : ∃ W, W = w.alloc (.cells (Hv v sz nm d).toArray 33) := ⟨_, rfl⟩
  have hH : HdAt W w.heap.size v sz nm d := hW ▸ HdAt.new_ w 33 v sz nm d hd
  have hB : Below w.heap.size w W := hW ▸ alloc_below w _
  have hR := fun w => rright_any w v sz nm d hd
  rw [hr] at hR
  go_enter Tryd.func10, Tryd.ntmps10
  go_wp2_with (first
    | (refine Great.wpList_boxTo rfl 33 _ rfl (some 1) rfl w.heap.size rfl (Hv v sz nm d).toArray rfl ?_; rw [← hW]; clear hW)
    | refine wpList_load_mid rfl 33 (.tmp 1) rfl w.heap.size 0 rfl (Hv v sz nm d) _ hH.range Tryd.underlying33 rfl (by rw [size33h, Hv_length hd]) ?_)
  refine (hR W).mono ?_
  rintro e w2 ⟨rfl, hb2⟩
  go_wp2
  go_ret2
  exact ⟨rfl, hB.trans (hb2.mono hB.size)⟩
/-- A byte of the padded name. -/
theorem pad_get {l : List UInt8} {k : Nat} (hk : k < 16) (hl : l.length ≤ 16) : (pad16 l)[k]? = some (if h : k < l.length then l[k] else 0) := by
  unfold pad16
  by_cases h : k < l.length
  · rw [dif_pos h, List.getElem?_append_left h, List.getElem?_eq_getElem h]
  · rw [dif_neg h, List.getElem?_append_right (by omega), List.getElem?_replicate, if_pos (by omega)]
section
variable {P : Program} {w : World} {ops : Array Oper} {rest : List Oper} {o : Oper} {a : Act} {Q : Exit → Act → World → Prop}
/-- A byte behind bytes of the call's own: which block the row lies in behind it is told. -/
theorem wpList_append_byte (hgd : o.guard = none) (s x : Operand) (t : TypeId)
    (ho : o.op = .call { callee := .builtin .append, args := #[s, x], argTypes := #[t, t] })
    (base : Nat) (e : TypeId) (i : TypeInfo) (ht : P.underlying t = some (.slice e)) (hi : P.info? e = some i) (hz : i.zero = some (.int .u8 0))
    (hsize : i.size = 1) (hby : i.bytes = 1) (v : Value) (n : Nat) (xs : List Value) (hs : a.eval s = v) (hown : w.ownsRow base e 1 v n xs)
    (B : Nat) (u : Value) (hx : a.eval x = .slice (some ⟨B, 0, none⟩) 1 1) (hb : w.heap[B]? = some (.cells #[u] e (0, 0))) (h1 : u.oneCell' = true) (hnm : n + 1 ≤ 140737488355328) (hbase : base ≤ w.heap.size)
    (h : ∀ g cap w', w'.ownsRow base e 1 (.slice (some ⟨g, 0, none⟩) (n + 1) cap) (n + 1) (xs ++ [u]) → w.grownBy w' v.ownBlock → (v.ownBlock = some g ∨ g = w.heap.size) → g < w'.heap.size → wpList P ops Q rest (a.put o.dst (.slice (some ⟨g, 0, none⟩) (n + 1) cap)) w') : wpList P ops Q (o :: rest) a w :=
  wpList_plain hgd fun _ hK => wp_append_lies w s x t ho base e i _ 1 1 ht hi hz hsize hby rfl (by omega) v n xs hs hown ⟨B, 0, none⟩ 1 1 [u] hx rfl (World.news_of_block (fr := (0, 0)) hb) (by simpa using h1) (by omega) (by simp only [maxLen]; omega) (by omega) hbase w.heap.size rfl fun g cap w' h2 h3 h4 h5 => hK _ _ (h g cap w' h2 h3 h4 h5)
end
theorem take_snoc9 {l : List UInt8} {k : Nat} {u : UInt8} (h : l[k]? = some u) : l.take (k + 1) = l.take k ++ [u] := by
  rw [List.take_add_one, h]; rfl
theorem own_heap {w w' : World} {base n : Nat} {v : Value} {xs : List Value} (h : w.ownsRow base 5 1 v n xs) (hk : ∀ g, base ≤ g → g < w.heap.size → w'.heap[g]? = w.heap[g]?) : w'.ownsRow base 5 1 v n xs := by
  refine ⟨h.1, ?_⟩
  rcases h.2 with h' | ⟨g, cap, cur, h1, hb, hg, hr⟩
  · exact .inl h'
  · exact .inr ⟨g, cap, cur, h1, hb, (hk g hb (Array.getElem?_eq_some_iff.1 hg).1).trans hg, hr⟩
/-- The cells of the sign. -/
def MC : Array Value := #[.int .u8 79, .int .u8 84, .int .u8 80, .int .u8 88]
/-- The world of the line that begins the bytes. -/
structure W3S (w2 : World) (L : Nat → Bool) (w : World) : Prop where
  bel : Below w2.heap.size w2 w
  ord : L 1 = true → L 0 = true
  o4 : L 4 = true → L 1 = true
  sz1 : L 1 = true → w2.heap.size + 1 ≤ w.heap.size
  none_ : L 1 = false → L 0 = false → w = w2.drew
  one : L 1 = false → L 0 = true → w = w2.drew.alloc (.cells MC 5)
theorem W3S.upd {w2 w w' : World} {L : Nat → Bool} (h : W3S w2 L w) (i : Nat) (hi : 2 ≤ i) (h4 : i = 4 → L 1 = true) (hb : Below w2.heap.size w2 w') (hs : w.heap.size ≤ w'.heap.size) (hw : L 1 = false → w' = w) : W3S w2 (Proofs.YtiieianbmldnbaaDoor.upd L i) w' := by
  have e0 : Proofs.YtiieianbmldnbaaDoor.upd L i 0 = L 0 := by unfold Proofs.YtiieianbmldnbaaDoor.upd; rw [if_neg (by omega)]
  have e1 : Proofs.YtiieianbmldnbaaDoor.upd L i 1 = L 1 := by unfold Proofs.YtiieianbmldnbaaDoor.upd; rw [if_neg (by omega)]
  refine ⟨hb, by rw [e0, e1]; exact h.ord, ?_, by rw [e1]; intro e; exact Nat.le_trans (h.sz1 e) hs, ?_, ?_⟩
  · rw [e1]
    intro e
    by_cases hi4 : i = 4
    · exact h4 hi4
    · unfold Proofs.YtiieianbmldnbaaDoor.upd at e; rw [if_neg (by omega)] at e; exact h.o4 e
  · rw [e0, e1]; intro a b; rw [hw a]; exact h.none_ a b
  · rw [e0, e1]; intro a b; rw [hw a]; exact h.one a b
/-- What every operation of that line keeps. -/
structure W3T (g : Nat) (w w' : World) : Prop where
  size : w.heap.size ≤ w'.heap.size
  cell : ∀ p : Addr, p.block < w.heap.size → w'.cell? p = w.cell? p
  blk : ∀ k, g < k → k < w.heap.size → w'.heap[k]? = w.heap[k]?
theorem W3T.of_below {g : Nat} {w w' : World} (h : Below w.heap.size w w') : W3T g w w' := ⟨h.size, fun _ hp => h.cell hp, fun k _ hk => h.block k hk⟩
theorem W3T.frame (w : World) (C : Array Value) (e : TypeId) (f1 f2 : Nat × Nat) : W3T w.heap.size (w.alloc (.cells C e f1)) (w.alloc (.cells C e f2)) := by
  refine ⟨by rw [alloc_size, alloc_size]; exact Nat.le_refl _, fun p hp => ?_, fun k h1 h2 => ?_⟩
  · by_cases h : p.block < w.heap.size
    · rw [World.cell?_alloc_lt _ _ _ h, World.cell?_alloc_lt _ _ _ h]
    · have hb : p.block = w.heap.size := by rw [alloc_size] at hp; omega
      unfold World.cell?
      rw [hb, heap_alloc_new, heap_alloc_new]
  · rw [alloc_size] at h2; omega
def W3R (hN g : Nat) (base : Nat) (v sz : Int) (i : Nat) (w : World) (x : Value) : Prop :=
  match i with
  | 0 => x = .slice (some ⟨g, 0, none⟩) 4 4
  | 1 => x = .slice (some ⟨g, 0, none⟩) 4 4 ∧ Bs w w.heap.size (some ⟨g, 0, none⟩) 4 MAGIC
  | 2 => x = .pointer (some ⟨hN, 0, none⟩)
  | 3 => x = .int .u32 v
  | 4 => ∃ A c, x = .slice A 8 c ∧ 8 ≤ c ∧ Bs w w.heap.size A 8 (MAGIC ++ p32 v)
  | 5 => x = .pointer (some ⟨hN, 1, none⟩)
  | 6 => x = .int .i64 sz
  | 7 => x = .int .u32 sz
  | _ => w.ownsRow base 5 1 x 12 (U8 (MAGIC ++ p32 v ++ p32 sz))
theorem W3R.grow {hN g base : Nat} {v sz : Int} (i : Nat) (w w' : World) (x : Value) (hb : W3T g w w') (hg : g < base) (h : W3R hN g base v sz i w x) : W3R hN g base v sz i w' x := by
  match i, h with
  | 0, h => exact h
  | 1, h => exact ⟨h.1, (h.2.keep fun p hp => hb.cell p hp).more hb.size⟩
  | 2, h => exact h
  | 3, h => exact h
  | 4, h =>
    obtain ⟨A, c, e, hc, h2⟩ := h
    exact ⟨A, c, e, hc, (h2.keep fun p hp => hb.cell p hp).more hb.size⟩
  | 5, h => exact h
  | 6, h => exact h
  | 7, h => exact h
  | _ + 8, h => exact own_heap h fun k h1 h2 => hb.blk k (by omega) h2
set_option maxHeartbeats 4000000 in
theorem rwrite_yes (w : World) (v sz : Int) (nm : ByteArray) (d : List UInt8) (hd : d.length = 32) (hv0 : 0 ≤ v) (hv1 : v < 4294967296) (hr : rightH sz nm = true) :
    Calls Tryd.prog 10 #[.agg (Hv v sz nm d).toArray] w fun e w' => ∃ x, e = .returned (.tuple #[x, .int .i64 0]) ∧ w'.ownsRow w.heap.size 5 1 x 64 (U8 (headOf v sz nm.data.toList d)) ∧ Below w.heap.size w w' := by
  obtain ⟨W, hW⟩ : ∃ W, W = w.alloc (.cells (Hv v sz nm d).toArray 33) := ⟨_, rfl⟩
  have hH : HdAt W w.heap.size v sz nm d := hW ▸ HdAt.new_ w 33 v sz nm d hd
  have hB : Below w.heap.size w W := hW ▸ alloc_below w _
  have hR := fun w => rright_any w v sz nm d hd
  have hnl : nm.data.toList.length ≤ 16 ∧ 0 ≤ sz ∧ sz ≤ 1048576 := by
    unfold rightH named at hr
    simp only [Bool.and_eq_true, decide_eq_true_eq] at hr
    exact ⟨hr.1.1.2, hr.2.1, hr.2.2⟩
  rw [hr] at hR
  clear hr
  obtain ⟨hnl, hz0, hz1⟩ := hnl
  have hms : sz % 4294967296 = sz := by omega
  have hnz : nm.data.toList.length = nm.size := by rw [Array.length_toList]; rfl
  have hns : nm.size ≤ 16 := by omega
  obtain ⟨i0, hi0, hzz, hz2, hz3⟩ := info_parts info_u8
  go_enter Tryd.func10, Tryd.ntmps10
  go_wp2_with (first
    | (refine Great.wpList_boxTo rfl 33 _ rfl (some 1) rfl w.heap.size rfl (Hv v sz nm d).toArray rfl ?_; rw [← hW]; clear hW)
    | refine wpList_load_mid rfl 33 (.tmp 1) rfl w.heap.size 0 rfl (Hv v sz nm d) _ hH.range Tryd.underlying33 rfl (by rw [size33h, Hv_length hd]) ?_)
  refine (hR W).mono ?_
  rintro e w2 ⟨rfl, hb2⟩
  have hB2 := hB.trans (hb2.mono hB.size)
  have hH2 := hH.below hb2 hH.lt
  clear hH hB hb2 hR
  have c0 := hH2.c0
  have c1 := hH2.c1
  have hlt := hH2.lt
  have hsz2 := hB2.size
  have kd : (convert 26 26 (.slice (some ⟨w2.heap.size, 0, none⟩) 4 4)).run Tryd.prog ((w2.alloc (.cells MC 5)).drew) = .ok (.slice (some ⟨w2.heap.size, 0, none⟩) 4 4) (w2.drew.alloc (.cells MC 5 (4, 5))) :=
    Lib.run_convert_bytes_const (P := Tryd.prog) w2.drew 26 5 MC 4 4 Tryd.underlying26 Tryd.underlying5
  go_wp2_with fail
  refine wp_region_relL (W3S w2) (W3T w2.heap.size) (W3R w.heap.size w2.heap.size (w2.heap.size + 1) v sz) [(1, .pointer (some ⟨w.heap.size, 0, none⟩))] (by kernel_rfl) (by kernel_rfl) (by kernel_rfl) ?base ⟨drew_below w2 _, fun e => (by cases e), fun e => (by cases e), fun e => (by cases e), fun _ _ => rfl, fun _ e => (by cases e)⟩ (fun i w w' x hT hR => W3R.grow i w w' x hT (Nat.lt_succ_self _) hR) ?steps ?fin
  case base =>
    intro p hp
    simp only [List.mem_cons, List.not_mem_nil, or_false] at hp
    rcases hp with rfl
    exact ⟨rfl, rfl⟩
  case steps =>
    have hT0 : ∀ w : World, W3T w2.heap.size w w := fun w => W3T.of_below (Below.refl _ _)
    refine steps_cons ?_ (steps_cons ?_ (steps_cons ?_ (steps_cons ?_ (steps_cons ?_ (steps_cons ?_ (steps_cons ?_ (steps_cons ?_ (steps_cons ?_ (steps_cons ?_ steps_nil)))))))))
    · intro a w0 L K hL hD hS hB hR hK
      rw [if_pos (wanted_none rfl)]
      have h1 : L 1 = false := by
        cases h : L 1 with
        | false => rfl
        | true => have := hS.ord h; rw [hL] at this; cases this
      obtain rfl := hS.none_ h1 hL
      have e0 : upd L 0 0 = true := by unfold upd; rw [if_pos rfl]
      have e1 : upd L 0 1 = false := by unfold upd; rw [if_neg (by omega)]; exact h1
      have e4 : upd L 0 4 = L 4 := by unfold upd; rw [if_neg (by omega)]
      have hb : Below w2.heap.size w2 (w2.drew.alloc (.cells MC 5)) := (drew_below w2 _).alloc (Nat.le_refl _) _
      have hS' : W3S w2 (upd L 0) (w2.drew.alloc (.cells MC 5)) := ⟨hb, fun _ => e0, fun e => by (rw [e4] at e; have := hS.o4 e; rw [h1] at this; cases this), fun e => (by rw [e1] at e; cases e), fun _ e => (by rw [e0] at e; cases e), fun _ _ => rfl⟩
      go_simp
      exact hK (.slice (some ⟨w2.heap.size, 0, none⟩) 4 4) (w2.drew.alloc (.cells MC 5)) hS' (W3T.of_below (alloc_below w2.drew _)) rfl
    · intro a w0 L K hL hD hS hB hR hK
      rw [if_pos (wanted_none rfl)]
      have h0 := hD 0 (by decide)
      obtain rfl := hS.one hL h0
      have e0 := tmp_is (hR.1)
      have hb : Below w2.heap.size w2 (w2.drew.alloc (.cells MC 5 (4, 5))) := (drew_below w2 _).alloc (Nat.le_refl _) _
      have e1 : upd L 1 1 = true := by unfold upd; rw [if_pos rfl]
      have e2 : upd L 1 0 = L 0 := by unfold upd; rw [if_neg (by omega)]
      have hl : Bs (w2.drew.alloc (.cells MC 5 (4, 5))) (w2.drew.alloc (.cells MC 5 (4, 5))).heap.size (some ⟨w2.heap.size, 0, none⟩) 4 MAGIC := by
        rw [alloc_size]; exact Bs.lit_ w2.drew 5 (U8 MAGIC).toArray (4, 5) MAGIC rfl
      have hS' : W3S w2 (upd L 1) (w2.drew.alloc (.cells MC 5 (4, 5))) := ⟨hb, fun _ => by rw [e2]; exact h0, fun _ => e1, fun _ => by rw [alloc_size]; exact Nat.le_refl _, fun e => (by rw [e1] at e; cases e), fun e => (by rw [e1] at e; cases e)⟩
      go_simp
      exact hK (.slice (some ⟨w2.heap.size, 0, none⟩) 4 4) (w2.drew.alloc (.cells MC 5 (4, 5))) hS' (W3T.frame w2.drew MC 5 _ _) ⟨rfl, hl⟩
    · intro a w0 L K hL hD hS hB hR hK
      rw [if_pos (wanted_none rfl)]
      have e0 := tmp_is (hB.1)
      go_simp
      exact hK (.pointer (some ⟨w.heap.size, 0, none⟩)) w0 (hS.upd 2 (by omega) (by omega) hS.bel (Nat.le_refl _) fun _ => rfl) (hT0 _) rfl
    · intro a w0 L K hL hD hS hB hR hK
      rw [if_pos (wanted_none rfl)]
      have e0 := tmp_is (hR.1)
      have c0w := (hS.bel.cell (p := ⟨w.heap.size, 0, none⟩) hlt).trans c0
      go_simp
      exact hK (.int .u32 v) w0 (hS.upd 3 (by omega) (by omega) hS.bel (Nat.le_refl _) fun _ => rfl) (hT0 _) rfl
    · intro a w0 L K hL hD hS hB hR hK
      rw [if_pos (wanted_none rfl)]
      obtain ⟨r1, hbs⟩ := hR.1
      have e0 := tmp_is r1
      have e1 := tmp_is (hR.2.1)
      have hd1 := hD 1 (by decide)
      have hs0 := hS.bel.size
      go_simp
      refine (rput32_any _ 4 4 v MAGIC w0 _ hbs (Nat.le_refl _) (by omega) hv0 hv1).mono ?_
      rintro e w5 ⟨x5, rfl, ho5, hb5⟩
      rw [show (MAGIC ++ p32 v).length = 8 from rfl] at ho5
      obtain ⟨A5, c5, rfl, hc5, hbs5⟩ := Bs.of_own ho5
      exact hK _ _ (hS.upd 4 (by omega) (fun _ => hd1) (hS.bel.trans (hb5.mono hs0)) hb5.size fun e => (by rw [hd1] at e; cases e)) (W3T.of_below hb5) ⟨_, _, rfl, hc5, hbs5⟩
    · intro a w0 L K hL hD hS hB hR hK
      rw [if_pos (wanted_none rfl)]
      have e0 := tmp_is (hB.1)
      go_simp
      exact hK (.pointer (some ⟨w.heap.size, 1, none⟩)) w0 (hS.upd 5 (by omega) (by omega) hS.bel (Nat.le_refl _) fun _ => rfl) (hT0 _) rfl
    · intro a w0 L K hL hD hS hB hR hK
      rw [if_pos (wanted_none rfl)]
      have e0 := tmp_is (hR.1)
      have c0w := (hS.bel.cell (p := ⟨w.heap.size, 1, none⟩) hlt).trans c1
      go_simp
      exact hK (.int .i64 sz) w0 (hS.upd 6 (by omega) (by omega) hS.bel (Nat.le_refl _) fun _ => rfl) (hT0 _) rfl
    · intro a w0 L K hL hD hS hB hR hK
      rw [if_pos (wanted_none rfl)]
      have e0 := tmp_is (hR.1)
      have hw32 : IntKind.u32.wrap sz = sz := by rw [IntKind.wrap_u32]; exact hms
      go_simp
      exact hK (.int .u32 sz) w0 (hS.upd 7 (by omega) (by omega) hS.bel (Nat.le_refl _) fun _ => rfl) (hT0 _) rfl
    · intro a w0 L K hL hD hS hB hR hK
      rw [if_pos (wanted_none rfl)]
      obtain ⟨A5, c5, r1, hc5, hbs5⟩ := hR.1
      have e0 := tmp_is r1
      have e1 := tmp_is (hR.2.1)
      have hs0 := hS.bel.size
      have hd1 := hS.o4 (hD 4 (by decide))
      have hs1 := hS.sz1 hd1
      go_simp
      refine (rput32_any A5 8 c5 sz (MAGIC ++ p32 v) w0 w0.heap.size hbs5 (Nat.le_refl _) (by omega) hz0 (by omega)).mono ?_
      rintro e w6 ⟨x6, rfl, ho6, hb6⟩
      rw [show (MAGIC ++ p32 v ++ p32 sz).length = 12 from rfl] at ho6
      exact hK _ _ (hS.upd 8 (by omega) (by omega) (hS.bel.trans (hb6.mono hs0)) hb6.size fun e => (by rw [hd1] at e; cases e)) (W3T.of_below hb6) (ho6.mono hs1)
    · intro a w0 L K hL hD hS hB hR hK
      rw [if_pos (wanted_none rfl)]
      have r8 := hR.1
      obtain ⟨x, hx⟩ : ∃ x, a.eval (.tmp 18) = x := ⟨_, rfl⟩
      have e0 := tmp_is hx
      go_simp
      refine hK x w0 (hS.upd 9 (by omega) (by omega) hS.bel (Nat.le_refl _) fun _ => rfl) (hT0 _) ?_
      rw [← hx]
      exact r8
  case fin =>
    intro a w3 L HS0 hall ha hR
    have r9 := deps_mem _ hR 9 (by decide)
    obtain ⟨x, hx⟩ : ∃ x, a.eval (.tmp 4) = x := ⟨_, rfl⟩
    have ho : w3.ownsRow (w2.heap.size + 1) 5 1 x 12 (U8 (MAGIC ++ p32 v ++ p32 sz)) := by rw [← hx]; exact r9
    have hs3 := HS0.sz1 (hall 1 (by decide))
    have hB3 := hB2.trans (HS0.bel.mono hsz2)
    have hH3 := hH2.below HS0.bel hlt
    clear hR HS0 hall r9 kd hH2 hB2 c0 c1
    simp only [pin] at ha
    rw [ha]
    simp only [List.setIfInBounds_toArray, List.set_cons_zero, List.set_cons_succ, hx]
    clear ha hx
    generalize a.eval (.tmp 10) = z10
    generalize a.eval (.tmp 11) = z11
    generalize a.eval (.tmp 12) = z12
    generalize a.eval (.tmp 13) = z13
    generalize a.eval (.tmp 14) = z14
    generalize a.eval (.tmp 15) = z15
    generalize a.eval (.tmp 16) = z16
    generalize a.eval (.tmp 17) = z17
    generalize a.eval (.tmp 18) = z18
    obtain ⟨B, hB⟩ : ∃ B, w2.heap.size + 1 = B := ⟨_, rfl⟩
    rw [hB] at ho hs3
    have hNB : w.heap.size < B := by omega
    clear hB hlt hsz2
    have hraw : rawOf v sz nm.data.toList d = (MAGIC ++ p32 v ++ p32 sz) ++ pad16 nm.data.toList ++ d := rfl
    have hrl := rawOf_length (v := v) (sz := sz) hnl hd
    have Hhead := Lib.hid (show headOf v sz nm.data.toList d = seals (rawOf v sz nm.data.toList d) from rfl)
    have hpl := pad16_length hnl
    have Hpg := Lib.hid (fun k (hk : k < 16) => pad_get (l := nm.data.toList) hk hnl)
    have h12 : (MAGIC ++ p32 v ++ p32 sz).length = 12 := rfl
    generalize MAGIC ++ p32 v ++ p32 sz = R12 at *
    generalize rawOf v sz nm.data.toList d = RW at *
    generalize pad16 nm.data.toList = PD at *
    have Hraw := Lib.hid hraw
    have Hd := Lib.hid hd
    have Hpl := Lib.hid hpl
    have Hnz := Lib.hid hnz
    clear hraw hnz hpl hms hv0 hv1 hz0 hz1
    go_wp2_with fail
    go_loopw [5, 4] (fun i x wr => ∃ k : Nat, (k : Int) ≤ 16 ∧ i = .int .i64 k ∧ wr.ownsRow B 5 1 x (12 + k) (U8 (R12 ++ PD.take k)) ∧ Below B w3 wr) (fun i _ _ => 16 - (intOf i).toNat)
    case atStart => exact ⟨0, by omega, rfl, by simpa using ho, Below.refl _ _⟩
    case round =>
      clear ho
      obtain ⟨k, hk, rfl, hown, hb⟩ := hrel
      have hsz := Nat.le_trans hs3 hb.size
      have c2 := (hH3.below hb hNB).c2
      have hk0 : (0 : Int) ≤ (k : Int) := by omega
      by_cases hlt : (k : Int) < 16
      · have hpg := Hpg.out k (by omega)
        by_cases hkn : k < nm.size
        · have hki : (k : Int) < nm.size := by omega
          rw [dif_pos (by rw [Hnz.out]; exact hkn)] at hpg
          have hpt := take_snoc9 hpg
          rw [show nm.data.toList[k]'(by rw [Hnz.out]; exact hkn) = (nm[k]'hkn) by simp; rfl] at hpt
          have Hpt := Lib.hid hpt
          clear hpg hpt
          go_wp2_with (at_builtin; refine wpList_append_byte rfl (.tmp 28) (.tmp 33) 26 rfl B 5 i0 Tryd.underlying26 hi0 hzz hz2 hz3 _ (12 + k) _ rfl (hown.alloc _) wr.heap.size (.int .u8 ((nm[k]'hkn).toNat : Int)) rfl (heap_alloc_new wr _) rfl (by omega) (by rw [alloc_size]; omega) ?_; intro g cap w4 hown1 hgrow hat hg3)
          rw [show [Value.int .u8 ((nm[k]'hkn).toNat : Int)] = U8 [nm[k]'hkn] from rfl, ← U8_append, List.append_assoc, ← Hpt.out] at hown1
          go_roundw
          case rel =>
            exact ⟨k + 1, by omega, by go_num, hown1, (hb.alloc hsz _).grown hgrow (by rw [alloc_size]; omega) (own_ge hown)⟩
          case measure => simp [intOf]; omega
        · have hki : ¬ (k : Int) < nm.size := by omega
          rw [dif_neg (by rw [Hnz.out]; exact hkn)] at hpg
          have Hpt := Lib.hid (take_snoc9 hpg)
          clear hpg
          go_wp2_with (at_builtin; refine wpList_append_byte rfl (.tmp 35) (.tmp 36) 26 rfl B 5 i0 Tryd.underlying26 hi0 hzz hz2 hz3 _ (12 + k) _ rfl (hown.alloc _) wr.heap.size (.int .u8 0) rfl (heap_alloc_new wr _) rfl (by omega) (by rw [alloc_size]; omega) ?_; intro g cap w4 hown1 hgrow hat hg3)
          rw [show [Value.int .u8 0] = U8 [0] from rfl, ← U8_append, List.append_assoc, ← Hpt.out] at hown1
          go_roundw
          case rel => exact ⟨k + 1, by omega, by go_num, hown1, (hb.alloc hsz _).grown hgrow (by rw [alloc_size]; omega) (own_ge hown)⟩
          case measure => simp [intOf]; omega
      · obtain rfl : k = 16 := by omega
        rw [show ((16 : Nat) : Int) = 16 from rfl]
        rw [List.take_of_length_le (by rw [Hpl.out]; exact Nat.le_refl _)] at hown
        clear c2 hk0 hlt hk
        have hS28 : ∀ wr, HdAt wr w.heap.size v sz nm d → wr.rangeAt w.heap.size 3 (U8 d) := fun wr h => h.dig
        go_wp2_with fail
        go_loopw [6, 4] (fun i x wr2 => ∃ k : Nat, (k : Int) ≤ 32 ∧ i = .int .i64 k ∧ wr2.ownsRow B 5 1 x (28 + k) (U8 (R12 ++ PD ++ d.take k)) ∧ Below B w3 wr2) (fun i _ _ => 32 - (intOf i).toNat)
        case atStart => exact ⟨0, by omega, rfl, by simpa using hown, hb⟩
        case round =>
          clear hown hb hsz
          obtain ⟨k, hk, rfl, hown, hb⟩ := hrel
          have hsz := Nat.le_trans hs3 hb.size
          by_cases hlt : (k : Int) < 32
          · obtain ⟨u, hu⟩ := byte_get (l := d) (k := k) (by have := Hd.out; omega)
            have hcu : wr.cell? ⟨w.heap.size, 3 + k, none⟩ = some (.int .u8 (u.toNat : Int)) := hS28 _ (hH3.below hb hNB) k _ (by rw [U8_get, hu]; rfl)
            have hk0 : (0 : Int) ≤ (k : Int) := by omega
            have Hdt := Lib.hid (take_snoc9 hu)
            clear hu
            go_wp2_with (at_builtin; refine wpList_append_byte rfl (.tmp 42) (.tmp 47) 26 rfl B 5 i0 Tryd.underlying26 hi0 hzz hz2 hz3 _ (28 + k) _ rfl (hown.alloc _) wr.heap.size (.int .u8 (u.toNat : Int)) rfl (heap_alloc_new wr _) rfl (by omega) (by rw [alloc_size]; omega) ?_; intro g cap w4 hown1 hgrow hat hg3)
            rw [show [Value.int .u8 (u.toNat : Int)] = U8 [u] from rfl, ← U8_append, List.append_assoc, ← Hdt.out] at hown1
            go_roundw
            case rel => exact ⟨k + 1, by omega, by go_num, hown1, (hb.alloc hsz _).grown hgrow (by rw [alloc_size]; omega) (own_ge hown)⟩
            case measure => simp [intOf]; omega
          · obtain rfl : k = 32 := by omega
            rw [List.take_of_length_le (by rw [Hd.out]; exact Nat.le_refl _), ← Hraw.out] at hown
            obtain ⟨A4, c4, rfl, hc4, hbs4⟩ := Bs.of_own hown
            have hBs := hB3.size
            have hBw : Below w.heap.size w wr := hB3.trans (hb.mono (Nat.le_of_lt hNB))
            go_wp2_with fail
            refine (rseal_any A4 60 c4 RW wr wr.heap.size hbs4 (Nat.le_refl _) (by omega)).mono ?_
            rintro e w9 ⟨x9, rfl, ho9, hb9⟩
            go_wp2
            go_ret2
            have hlen : (seals RW).length = 64 := by rw [seals_length, hrl]
            rw [hlen, ← Hhead.out] at ho9
            exact ⟨x9, rfl, ho9.mono hBw.size, hBw.trans (hb9.mono hBw.size)⟩
end Go.Proofs.YtiieianbmldnbaaDoor
