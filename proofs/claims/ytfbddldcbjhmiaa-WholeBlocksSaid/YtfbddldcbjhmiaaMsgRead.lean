/-
  Bytes read as a message.
-/
import Derived.Test.YtfbddldcbjhmiaaMsgSniff
import Derived.Test.YtfbddldcbjhmiaaMsgSame
namespace Go.Proofs.Ytfbddldcbjhmiaa
open Go.RowKit
set_option maxRecDepth 100000
set_option linter.unusedVariables false
theorem rdGo_at (l : List UInt8) : ∀ (fuel at_ num : Nat) (acc : List (Int × List UInt8)), at_ ≤ l.length → (rdGo l fuel at_ num acc).2.1 ≤ l.length
  | 0, at_, num, acc, h => h
  | fuel + 1, at_, num, acc, h => by
    rw [rdGo]
    split
    · exact h
    · split
      · exact h
      · split
        · exact Nat.zero_le _
        · rename_i d s k hbg
          have hle := bg_le hbg
          rw [List.length_drop] at hle
          split
          · exact Nat.zero_le _
          · split
            · exact Nat.zero_le _
            · split
              · exact Nat.zero_le _
              · split
                · exact Nat.zero_le _
                · exact rdGo_at l fuel _ _ _ (by omega)
theorem rdO_at (l : List UInt8) : (rdO l).2.1 ≤ l.length := rdGo_at l _ _ _ _ (Nat.zero_le _)
theorem results_cell_tmp_mid {P : Program} {fn : Func} {p u : Tmp} {ty : TypeId} (h : fn.results = #[.cell p ty, .tmp u]) (tmps : Array Value) (w : World) (b o : Nat) (cs : List Value) (d : TypeDesc)
    (hp : tmps.getD p undef = .pointer (some ⟨b, o, none⟩)) (hc : w.rangeAt b o cs) (hu : P.underlying ty = some d) (hd : d.isRow = true) (hi : (P.info? ty).map (·.size) = some cs.length) :
    (results fn tmps).run P w = .ok (.tuple #[.agg cs.toArray, tmps.getD u undef]) w := by
  rw [results_cell_tmp h, hp]
  simp only [asAddr, Sem.run_pure, Result.andThen_ok, run_loadVar_mid w b o ty cs d hc hu hd hi]
/-- What a call that begins with its message's zero finds. -/
def Z6 : List Value := [.int .i64 0, .int .i64 0, .int .i64 0, .slice none 0 0, .slice none 0 0, .slice none 0 0]
structure Zm (w W : World) : Prop where
  there : W.there w.heap.size 0 6
  bel : Below w.heap.size w W
  size : w.heap.size + 1 ≤ W.heap.size
  blk : W.heap[w.heap.size]? = some (.cells Z6.toArray 38)
theorem Zm.new_ (w : World) : Zm w (w.alloc (.cells Z6.toArray 38)) := ⟨there_new w _ _ rfl, alloc_below w _, by rw [alloc_size]; exact Nat.le_refl _, heap_alloc_new w _⟩
theorem Zm.step {w W W' : World} (h : Zm w W) (hb : Below W.heap.size W W') : Zm w W' := by
  have := h.size
  have := hb.size
  exact ⟨there_below h.there hb (by omega), h.bel.trans (hb.mono (by omega)), by omega, (hb.block _ (by omega)).trans h.blk⟩
theorem Zm.stored {w W : World} (h : Zm w W) (vs : List Value) (hl : vs.length = 6) : (W.setCells w.heap.size 0 vs).rangeAt w.heap.size 0 vs ∧ Below w.heap.size w (W.setCells w.heap.size 0 vs) :=
  ⟨World.rangeAt_setCells_same _ _ _ _ (by rw [hl]; exact h.there), below_setCells h.bel (Nat.le_refl _) _ _⟩
theorem z6_noU8 : ∀ (j : Nat) (u : Int), Z6.toArray[j]? ≠ some (.int .u8 u)
  | 0, _, h | 1, _, h | 2, _, h | 3, _, h | 4, _, h | 5, _, h => by injection h with h; cases h
  | j + 6, _, h => by simp [Z6] at h
theorem Bs.set_ {w : World} {B n N : Nat} {A : Option Addr} {l : List UInt8} {t : TypeId} (h : Bs w B A n l) (hz : w.heap[N]? = some (.cells Z6.toArray t)) (vs : List Value) : Bs (w.setCells N 0 vs) B A n l :=
  ⟨h.len, fun hn => by
    obtain ⟨b, off, e, hb, hc⟩ := h.place hn
    refine ⟨b, off, e, hb, fun k u hu => ?_⟩
    have hk := hc k u hu
    by_cases hbN : b = N
    · subst hbN
      rw [cell_of_row _ _ _ _ _ _ hz] at hk
      exact absurd hk (z6_noU8 _ _)
    · rw [World.cell?_setCells_out _ _ _ _ _ (fun e => absurd e hbN)]; exact hk⟩
theorem Ms.set_ {w : World} {B N : Nat} {tA oA bA : Option Addr} {tn on bn : Nat} {vs : List Sv} {tok body : List UInt8} {ps : List (Int × List UInt8)} {t : TypeId} (h : Ms w B tA tn oA on vs bA bn tok ps body) (hf : Fresh oA (N + 1)) (hz : w.heap[N]? = some (.cells Z6.toArray t)) (cs : List Value) :
    Ms (w.setCells N 0 cs) B tA tn oA on vs bA bn tok ps body := by
  refine ⟨h.t.set_ hz cs, ⟨⟨h.o.sh.len, fun hn => ?_⟩, fun s hs => ?_, ?_⟩, h.b.set_ hz cs⟩
  · obtain ⟨b, off, e, hb, hc⟩ := h.o.sh.place hn
    have hN : b ≠ N := fun e2 => by have := hf _ e; rw [e2] at this; exact absurd this (by show ¬ N + 1 ≤ N; omega)
    refine ⟨b, off, e, hb, fun i s hs => ?_⟩
    obtain ⟨q1, q2⟩ := hc i s hs
    exact ⟨by rw [World.cell?_setCells_out _ _ _ _ _ (fun e => absurd e hN)]; exact q1, by rw [World.cell?_setCells_out _ _ _ _ _ (fun e => absurd e hN)]; exact q2⟩
  · have q := h.o.dp s hs
    exact (SvAt.mk_ (q.bs.set_ hz cs) q.cap q.max).1
  · rw [← h.o.eq]
    refine List.map_congr_left fun s hs => ?_
    have q := h.o.dp s hs
    exact (SvAt.mk_ (q.bs.set_ hz cs) q.cap q.max).2
theorem one6 (a b c : Int) (tA oA bA : Option Addr) (tn tc on oc bn bc : Nat) : ∀ v ∈ ([.int .i64 a, .int .i64 b, .int .i64 c, .slice tA tn tc, .slice oA on oc, .slice bA bn bc] : List Value), v.oneCell' = true := by
  intro v hv
  simp only [List.mem_cons, List.not_mem_nil, or_false] at hv
  rcases hv with rfl | rfl | rfl | rfl | rfl | rfl <;> rfl
theorem size_msg : (Try.prog.info? 38).map (·.size) = some 6 := by kernel_rfl
/-- A message's content. -/
structure Mq where
  kd : Int
  cd : Int
  id : Int
  tok : List UInt8
  ps : List (Int × List UInt8)
  body : List UInt8
def Mq.zero : Mq := ⟨0, 0, 0, [], [], []⟩
def restM (l : List UInt8) : List UInt8 := l.drop (4 + bn0 l 0 % 16)
def badM (l : List UInt8) : Prop := ¬ (4 ≤ l.length ∧ bn0 l 0 / 64 = 1) ∨ codeB (bn0 l 1 : Int) = false ∨ 8 < bn0 l 0 % 16 ∨ l.length - 4 < bn0 l 0 % 16 ∨ (bn0 l 1 = 0 ∧ 4 < l.length)
instance (l : List UInt8) : Decidable (badM l) := by unfold badM; infer_instance
def rdM (l : List UInt8) : Mq × Int :=
  if badM l then (Mq.zero, 20)
  else if (rdO (restM l)).2.2 ≠ 0 then (Mq.zero, (rdO (restM l)).2.2)
  else if (bodyF ((restM l).drop (rdO (restM l)).2.1)).2 ≠ 0 then (Mq.zero, (bodyF ((restM l).drop (rdO (restM l)).2.1)).2)
  else (⟨((bn0 l 0 / 16 % 4 : Nat) : Int), (bn0 l 1 : Int), ((bn0 l 2 * 256 + bn0 l 3 : Nat) : Int), (l.drop 4).take (bn0 l 0 % 16), (rdO (restM l)).1, (bodyF ((restM l).drop (rdO (restM l)).2.1)).1⟩, 0)
theorem badM_iff (l : List UInt8) : badM l ↔ (¬ (4 ≤ l.length ∧ bn0 l 0 / 64 = 1) ∨ codeB (bn0 l 1 : Int) = false ∨ 8 < bn0 l 0 % 16 ∨ l.length - 4 < bn0 l 0 % 16 ∨ (bn0 l 1 = 0 ∧ 4 < l.length)) := Iff.rfl
def RdMRet (r : Mq × Int) (w : World) (e : Ending) (w' : World) : Prop :=
  ∃ (tA : Option Addr) (tn tc : Nat) (oA : Option Addr) (on oc : Nat) (bA : Option Addr) (bn bc : Nat) (vs : List Sv),
    e = .returned (.tuple #[.agg #[.int .i64 r.1.kd, .int .i64 r.1.cd, .int .i64 r.1.id, .slice tA tn tc, .slice oA on oc, .slice bA bn bc], .int .i64 r.2])
    ∧ Hid (tn ≤ tc ∧ tc ≤ maxLen ∧ on ≤ oc ∧ oc ≤ maxLen ∧ bn ≤ bc ∧ bc ≤ maxLen) ∧ Ms w' w'.heap.size tA tn oA on vs bA bn r.1.tok r.1.ps r.1.body ∧ Below w.heap.size w w'
theorem Ms.zero (w : World) (B : Nat) : Ms w B none 0 none 0 [] none 0 [] [] [] := ⟨Bs.empty _ _ _, Os.nil_ _ _ _, Bs.empty _ _ _⟩
theorem RdMRet.err {r : Mq × Int} {w w' : World} {er : Int} (h : r = (Mq.zero, er)) (hb : Below w.heap.size w w') :
    RdMRet r w (.returned (.tuple #[.agg #[.int .i64 0, .int .i64 0, .int .i64 0, .slice none 0 0, .slice none 0 0, .slice none 0 0], .int .i64 er])) w' := by
  subst h
  exact ⟨none, 0, 0, none, 0, 0, none, 0, 0, [], rfl, ⟨Nat.le_refl _, Nat.zero_le _, Nat.le_refl _, Nat.zero_le _, Nat.le_refl _, Nat.zero_le _⟩, Ms.zero _ _, hb⟩
theorem pick_if {P : Prop} [Decidable P] (b x y : Nat) : ∃ o, (if P then (some ⟨b, x, none⟩ : Option Addr) else some ⟨b, y, none⟩) = some ⟨b, o, none⟩ := by
  by_cases h : P
  · exact ⟨x, by rw [if_pos h]⟩
  · exact ⟨y, by rw [if_neg h]⟩
theorem pick_if2 {P : Prop} [Decidable P] (b x k : Nat) : ∃ o, (if P then (some ⟨b, x, none⟩ : Option Addr) else some ⟨b, x + k, none⟩) = some ⟨b, o, none⟩ ∧ (if P then (some ⟨b, x, none⟩ : Option Addr) else (some ⟨b, x, none⟩ : Option Addr).map (·.add k)) = some ⟨b, o, none⟩ := by
  by_cases h : P
  · exact ⟨x, by rw [if_pos h], by rw [if_pos h]⟩
  · exact ⟨x + k, by rw [if_neg h], by rw [if_neg h]; simp [Addr.add]⟩
set_option maxHeartbeats 4000000 in
theorem mread_f (A : Option Addr) (n c : Nat) (l : List UInt8) (w : World) (B : Nat) (hbs : Bs w B A n l) (hB : B ≤ w.heap.size) (hc : n ≤ c) (hcI : (c : Int) ≤ 9223372036854775807) (hnI : (n : Int) ≤ 140737488355328) :
    Calls Try.prog 11 #[.slice A n c] w (RdMRet (rdM l) w) := by
  have hl := hbs.len
  have hsn := fun W (b : Below w.heap.size w W) => sniff_f A n c l W B (hbs.below' b hB) hc
  have fin : ∀ {er : Int} {w' : World}, rdM l = (Mq.zero, er) → Below w.heap.size w w' → RdMRet (rdM l) w (.returned (.tuple #[.agg #[.int .i64 0, .int .i64 0, .int .i64 0, .slice none 0 0, .slice none 0 0, .slice none 0 0], .int .i64 er])) w' := fun h b => RdMRet.err h b
  by_cases hok : 4 ≤ l.length ∧ bn0 l 0 / 64 = 1
  · obtain ⟨b, off, rfl, hb, hcell⟩ := hbs.at_ (by omega)
    have hs1 : sniffP l = (((bn0 l 0 / 16 % 4 : Nat) : Int), ((bn0 l 2 * 256 + bn0 l 3 : Nat) : Int), true) := by unfold sniffP; rw [if_pos hok]
    rw [hs1] at hsn
    have l0 := bn0_lt l 0
    have l1 := bn0_lt l 1
    have h4n : 4 ≤ n := by omega
    have hcells : ∀ W, Below w.heap.size w W → W.cell? ⟨b, off, none⟩ = some (.int .u8 (bn0 l 0 : Int)) ∧ W.cell? ⟨b, off + 1, none⟩ = some (.int .u8 (bn0 l 1 : Int)) := fun W h =>
      ⟨(h.cell (p := ⟨b, off, none⟩) (by show b < _; omega)).trans (hcell 0 (by omega)), (h.cell (p := ⟨b, off + 1, none⟩) (by show b < _; omega)).trans (hcell 1 (by omega))⟩
    have hsz := and15 (bn0 l 0) l0
    have hcode := fun W => isCode_f (bn0 l 1 : Int) W
    obtain ⟨o4, i4⟩ := pick_if (P := c = 4) b off (off + 4)
    have hr4 : Bs w B (some ⟨b, o4, none⟩) (n - 4) (l.drop 4) := by
      have := hbs.fromIf 4 h4n hc
      have e : (if c = 4 then (some ⟨b, off, none⟩ : Option Addr) else (some ⟨b, off, none⟩ : Option Addr).map (·.add 4)) = some ⟨b, o4, none⟩ := i4
      rwa [e] at this
    have hbadI := badM_iff l
    have hrdI := rdM.eq_1 l
    have hrM : restM l = l.drop (4 + bn0 l 0 % 16) := rfl
    have hx1I : ∀ x : Nat, (((x : Nat) : Int) == 0) = decide (x = 0) := fun x => by rw [Bool.eq_iff_iff]; simp
    generalize bn0 l 0 = x0 at *
    generalize bn0 l 1 = x1 at *
    generalize hid0 : bn0 l 2 * 256 + bn0 l 3 = idn at *
    obtain ⟨sz, hszv⟩ : ∃ sz, x0 % 16 = sz := ⟨_, rfl⟩
    rw [hszv] at hsz hbadI hrdI hrM
    obtain ⟨kdn, hkd⟩ : ∃ kdn, x0 / 16 % 4 = kdn := ⟨_, rfl⟩
    rw [hkd] at hsn hrdI
    obtain ⟨n4, in4⟩ : ∃ n4, n - 4 = n4 := ⟨_, rfl⟩
    obtain ⟨c4, ic4⟩ : ∃ c4, c - 4 = c4 := ⟨_, rfl⟩
    obtain ⟨qc, hqc⟩ : ∃ qc, codeB (x1 : Int) = qc := ⟨_, rfl⟩
    rw [hqc] at hcode hbadI
    have g1 : (1 : Int) < n := by omega
    have g0 : (0 : Int) < n := by omega
    have g4 : (4 : Int) ≤ n := by omega
    have g4c : (4 : Int) ≤ c := by omega
    have gnc : (n : Int) ≤ c := by omega
    have gx0 : (x0 : Int) < 256 := by omega
    have gx1 : (x1 : Int) < 256 := by omega
    have HA := Lib.hid (And.intro hsn (And.intro hcells hcode))
    have HZ := Lib.hid (Zm.new_ w)
    by_cases hq : qc = false ∨ 8 < sz ∨ n4 < sz ∨ (x1 = 0 ∧ 0 < n4)
    · have HF := Lib.hid fun w' => @fin 20 w' (by rw [hrdI, if_pos (hbadI.2 (.inr (by rcases hq with h | h | h | h; exact .inl h; exact .inr (.inl h); exact .inr (.inr (.inl (by omega))); exact .inr (.inr (.inr ⟨h.1, by omega⟩)))))])
      have hq4 : qc = false ∨ (qc = true ∧ (sz = 9 ∨ sz = 10 ∨ sz = 11 ∨ sz = 12 ∨ sz = 13 ∨ sz = 14 ∨ sz = 15)) ∨ (qc = true ∧ ¬ (8 : Int) < sz ∧ (n4 : Int) < sz) ∨ (qc = true ∧ ¬ (8 : Int) < sz ∧ ¬ (n4 : Int) < sz ∧ ((x1 : Int) == 0) = true ∧ (0 : Int) < n4) := by
        cases qc with
        | false => exact .inl rfl
        | true =>
          by_cases e1 : 8 < sz
          · exact .inr (.inl ⟨rfl, by omega⟩)
          · by_cases e2 : n4 < sz
            · exact .inr (.inr (.inl ⟨rfl, by omega, by omega⟩))
            · have e3 : x1 = 0 ∧ 0 < n4 := by simp only [e1, e2, false_or, Bool.true_eq_false] at hq; exact hq
              exact .inr (.inr (.inr ⟨rfl, by omega, by omega, by rw [hx1I]; simp [e3.1], by omega⟩))
      clear hbs hl hsn fin hok hs1 hcells hcode hr4 hbadI hrdI hrM hcell hq hqc hkd hszv l0 l1 h4n hid0 hx1I
      rcases hq4 with rfl | ⟨rfl, (rfl | rfl | rfl | rfl | rfl | rfl | rfl)⟩ | ⟨rfl, e1, e2⟩ | ⟨rfl, e1, e2, e3, e4⟩
      all_goals
        go_enter Try.func11, Try.ntmps11
        go_wp2_with fail
        refine (HA.out.1 _ (alloc_below w _)).mono ?_
        rintro e w1 ⟨rfl, m1, hw1⟩
        have Z1 := HZ.out.step (hw1 ▸ drewN_below _ _ m1 : Below (w.alloc (.cells Z6.toArray 38)).heap.size (w.alloc (.cells Z6.toArray 38)) w1)
        obtain ⟨d0, d1⟩ := HA.out.2.1 w1 Z1.bel
        have H1 := Lib.hid Z1
        clear hw1 Z1
        go_wp2
        go_quiet (fail)
        go_wp2_with fail
        refine (HA.out.2.2 _).mono ?_
        rintro e w2 ⟨rfl, hw2⟩
        have Z2 := H1.out.step (hw2 ▸ drewN_below _ _ _ : Below w1.heap.size w1 w2)
        have H2 := Lib.hid Z2
        clear hw2 Z2 d0 d1
        go_wp2_with (refine wpList_store_mid rfl 38 (.tmp 2) (.tmp 57) rfl w.heap.size 0 Z6.toArray rfl rfl H2.out.there size_msg (all_oneCell_toArray (one6 _ _ _ _ _ _ _ _ _ _ _ _)) ?_)
        refine bodyPost_ret (results_cell_tmp_mid rfl _ _ w.heap.size 0 Z6 _ rfl (H2.out.stored Z6 rfl).1 Try.underlying38 rfl size_msg) rfl ?_
        exact HF.out _ (H2.out.stored Z6 rfl).2
    · have hqc1 : qc = true := by cases qc with | true => rfl | false => exact absurd (.inl rfl) hq
      subst hqc1
      have hbad : ¬ badM l := fun h => by
        rcases hbadI.1 h with h | h | h | h | h
        · exact h hok
        · cases h
        · exact hq (.inr (.inl h))
        · exact hq (.inr (.inr (.inl (by omega))))
        · exact hq (.inr (.inr (.inr ⟨h.1, by omega⟩)))
      rw [if_neg hbad] at hrdI
      have e1 : ¬ (8 : Int) < sz := by omega
      have e2 : ¬ (n4 : Int) < sz := by omega
      have gs : (sz : Int) ≤ n4 := by omega
      have gsc : (sz : Int) ≤ c4 := by omega
      have gn4c : (n4 : Int) ≤ c4 := by omega
      have e3 : ((x1 : Int) == 0) = false ∨ (((x1 : Int) == 0) = true ∧ ¬ (0 : Int) < n4) := by
        rw [hx1I]
        by_cases e : x1 = 0
        · exact .inr ⟨by simp [e], by omega⟩
        · exact .inl (by simp [e])
      obtain ⟨o5, i5, j5⟩ := pick_if2 (P := c4 = sz) b o4 sz
      obtain ⟨n5, in5⟩ : ∃ n5, n4 - sz = n5 := ⟨_, rfl⟩
      obtain ⟨c5, ic5⟩ : ∃ c5, c4 - sz = c5 := ⟨_, rfl⟩
      have hr5 : Bs w B (some ⟨b, o5, none⟩) n5 (restM l) := by
        have := hr4.fromIf (c := c4) sz (by omega) (by omega)
        have e : (if c4 = sz then (some ⟨b, o4, none⟩ : Option Addr) else (some ⟨b, o4, none⟩ : Option Addr).map (·.add sz)) = some ⟨b, o5, none⟩ := j5
        rw [e, List.drop_drop, ← hrM, in4, in5] at this
        exact this
      have hrt : Bs w B (some ⟨b, o4, none⟩) sz ((l.drop 4).take sz) := hr4.take_ sz (by omega)
      have hro := fun W (h : Below w.heap.size w W) => readF_f (some ⟨b, o5, none⟩) n5 c5 (restM l) W w.heap.size ((hr5.below' h hB).more hB) h.size (by omega) (by omega) (by omega)
      have hat := rdO_at (restM l)
      have hl5 := hr5.len
      generalize rdO (restM l) = R at hro hat hrdI
      obtain ⟨PS, at_, er⟩ := R
      dsimp only at hat hrdI
      have e4 : ((n4 : Int) == 0) = ((n4 : Int) == 0) := rfl
      by_cases her : er = 0
      · subst her
        rw [if_neg (by simp)] at hrdI
        obtain ⟨o6, i6, j6⟩ := pick_if2 (P := c5 = at_) b o5 at_
        obtain ⟨n6, in6⟩ : ∃ n6, n5 - at_ = n6 := ⟨_, rfl⟩
        obtain ⟨c6, ic6⟩ : ∃ c6, c5 - at_ = c6 := ⟨_, rfl⟩
        have hr6 : Bs w B (some ⟨b, o6, none⟩) n6 ((restM l).drop at_) := by
          have := hr5.fromIf (c := c5) at_ (by omega) (by omega)
          have e : (if c5 = at_ then (some ⟨b, o5, none⟩ : Option Addr) else (some ⟨b, o5, none⟩ : Option Addr).map (·.add at_)) = some ⟨b, o6, none⟩ := j6
          rw [e, in6] at this
          exact this
        have hbo := fun W (h : Below w.heap.size w W) => readBody_f (some ⟨b, o6, none⟩) n6 c6 ((restM l).drop at_) W w.heap.size ((hr6.below' h hB).more hB) h.size (by omega) (by omega)
        have hct := fun W (h : Below w.heap.size w W) => bclone_f (some ⟨b, o4, none⟩) sz c4 ((l.drop 4).take sz) W w.heap.size ((hrt.below' h hB).more hB) h.size (by omega)
        have htl := hrt.len
        have ga : (at_ : Int) ≤ n5 := by omega
        have gac : (at_ : Int) ≤ c5 := by omega
        have gn5c : (n5 : Int) ≤ c5 := by omega
        generalize bodyF ((restM l).drop at_) = RB at hbo hrdI
        obtain ⟨bd, er2⟩ := RB
        dsimp only at hrdI
        by_cases her2 : er2 = 0
        · subst her2
          rw [if_neg (by simp)] at hrdI
          obtain ⟨tk, htk⟩ : ∃ tk, (l.drop 4).take sz = tk := ⟨_, rfl⟩
          rw [htk] at hct hrdI htl
          subst htl
          have HO := Lib.hid (And.intro hro (And.intro hbo (And.intro hct hrdI)))
          clear hbs hl hsn fin hok hs1 hcells hcode hr4 hbadI hrdI hrM hcell hq hqc hkd hszv l0 l1 h4n hr5 hrt hro hat hl5 j5 j6 hr6 hbo hct hbad htk hid0 hx1I
          rcases e3 with e3 | ⟨e3, e5⟩
          all_goals
            go_enter Try.func11, Try.ntmps11
            go_wp2_with fail
            refine (HA.out.1 _ (alloc_below w _)).mono ?_
            rintro e w1 ⟨rfl, m1, hw1⟩
            have Z1 := HZ.out.step (hw1 ▸ drewN_below _ _ m1 : Below (w.alloc (.cells Z6.toArray 38)).heap.size (w.alloc (.cells Z6.toArray 38)) w1)
            obtain ⟨d0, d1⟩ := HA.out.2.1 w1 Z1.bel
            have H1 := Lib.hid Z1
            clear hw1 Z1
            go_wp2
            go_quiet (fail)
            go_wp2_with fail
            refine (HA.out.2.2 _).mono ?_
            rintro e w2 ⟨rfl, hw2⟩
            have Z2 := H1.out.step (hw2 ▸ drewN_below _ _ _ : Below w1.heap.size w1 w2)
            have H2 := Lib.hid Z2
            clear hw2 Z2 d0 d1
            go_wp2
            go_quiet (fail)
            go_wp2_with fail
            refine (HO.out.1 _ ((H2.out.bel).trans (drewN_below _ w.heap.size _))).mono ?_
            rintro e w3 ⟨oA, on, oc, vs, rfl, hoc, hom, hon, hos, b3, hfr⟩
            have Z3 := H2.out.step ((drewN_below w2 _ _).trans (b3.mono (drewN_below w2 w2.heap.size _).size))
            have H3 := Lib.hid Z3
            have K3 := Lib.hid (And.intro hos (And.intro hoc (And.intro hom hfr.out)))
            clear hoc hom hon hos b3 Z3 hfr
            try dsimp only
            go_wp2_with fail
            refine (HO.out.2.1 _ H3.out.bel).mono ?_
            rintro e w4 ⟨bA, bn, bc, rfl, hbc, hbn, hbb, b4⟩
            have Z4 := H3.out.step b4
            have K4 := Lib.hid (And.intro (K3.out.1.below b4) (And.intro hbb hbc))
            have hsz4 := b4.size
            have H4 := Lib.hid Z4
            clear hbc hbn hbb b4 Z4
            try dsimp only
            go_wp2_with fail
            refine (HO.out.2.2.1 _ H4.out.bel).mono ?_
            rintro e w5 ⟨u5, rfl, ho5, b5⟩
            obtain ⟨tA, tc, rfl, htc, hbt⟩ := own_bs ho5
            have htm := row_cap ho5
            have Z5 := H4.out.step b5
            have hsz5 := b5.size
            have K5 := Lib.hid (And.intro (Ms.mk hbt ((K4.out.1.below' b5 hsz4).more (Nat.le_trans hsz4 hsz5)) ((K4.out.2.1.below b5).more hsz5)) (And.intro htc (And.intro htm (And.intro K3.out.2.1 (And.intro K3.out.2.2.1 (And.intro K4.out.2.2.1 K4.out.2.2.2))))))
            have H5 := Lib.hid Z5
            clear ho5 htc hbt htm b5 Z5
            go_wp2_with (refine wpList_store_mid rfl 38 (.tmp 2) (.tmp 92) rfl w.heap.size 0 ([.int .i64 (kdn : Int), .int .i64 (x1 : Int), .int .i64 (idn : Int), .slice tA tk.length tc, .slice oA on oc, .slice bA bn bc] : List Value).toArray rfl rfl H5.out.there size_msg (all_oneCell_toArray (one6 _ _ _ _ _ _ _ _ _ _ _ _)) ?_)
            have hf := H5.out.stored [.int .i64 (kdn : Int), .int .i64 (x1 : Int), .int .i64 (idn : Int), .slice tA tk.length tc, .slice oA on oc, .slice bA bn bc] rfl
            refine bodyPost_ret (results_cell_tmp_mid rfl _ _ w.heap.size 0 _ _ rfl hf.1 Try.underlying38 rfl size_msg) rfl ?_
            rw [HO.out.2.2.2]
            refine ⟨tA, tk.length, tc, oA, on, oc, bA, bn, bc, vs, rfl, K5.out.2, ?_, hf.2⟩
            rw [size_setCells_]
            exact K5.out.1.set_ (fun ad ha => by have h1 : w2.heap.size ≤ ad.block := K3.out.2.2.2 ad ha; have h2 := H2.out.size; omega) H5.out.blk _
        · rw [if_pos her2] at hrdI
          have HF := Lib.hid fun w' => @fin er2 w' hrdI
          have hne : (er2 != 0) = true := bne_iff_ne.2 her2
          have HO := Lib.hid (And.intro hro hbo)
          clear hbs hl hsn fin hok hs1 hcells hcode hr4 hbadI hrdI hrM hcell hq hqc hkd hszv l0 l1 h4n hr5 hrt hro hat hl5 j5 j6 hr6 hbo hct hbad htl her2 hid0 hx1I
          rcases e3 with e3 | ⟨e3, e5⟩
          all_goals
            go_enter Try.func11, Try.ntmps11
            go_wp2_with fail
            refine (HA.out.1 _ (alloc_below w _)).mono ?_
            rintro e w1 ⟨rfl, m1, hw1⟩
            have Z1 := HZ.out.step (hw1 ▸ drewN_below _ _ m1 : Below (w.alloc (.cells Z6.toArray 38)).heap.size (w.alloc (.cells Z6.toArray 38)) w1)
            obtain ⟨d0, d1⟩ := HA.out.2.1 w1 Z1.bel
            have H1 := Lib.hid Z1
            clear hw1 Z1
            go_wp2
            go_quiet (fail)
            go_wp2_with fail
            refine (HA.out.2.2 _).mono ?_
            rintro e w2 ⟨rfl, hw2⟩
            have Z2 := H1.out.step (hw2 ▸ drewN_below _ _ _ : Below w1.heap.size w1 w2)
            have H2 := Lib.hid Z2
            clear hw2 Z2 d0 d1
            go_wp2
            go_quiet (fail)
            go_wp2_with fail
            refine (HO.out.1 _ ((H2.out.bel).trans (drewN_below _ w.heap.size _))).mono ?_
            rintro e w3 ⟨oA, on, oc, vs, rfl, hoc, hom, hon, hos, b3, hfr⟩
            have Z3 := H2.out.step ((drewN_below w2 _ _).trans (b3.mono (drewN_below w2 w2.heap.size _).size))
            have H3 := Lib.hid Z3
            have K3 := Lib.hid (And.intro hos (And.intro hoc (And.intro hom hfr.out)))
            clear hoc hom hon hos b3 Z3 hfr
            try dsimp only
            go_wp2_with fail
            refine (HO.out.2 _ H3.out.bel).mono ?_
            rintro e w4 ⟨bA, bn, bc, rfl, hbc, hbn, hbb, b4⟩
            have Z4 := H3.out.step b4
            have K4 := Lib.hid (And.intro (K3.out.1.below b4) (And.intro hbb hbc))
            have hsz4 := b4.size
            have H4 := Lib.hid Z4
            clear hbc hbn hbb b4 Z4
            try dsimp only
            go_wp2_with (refine wpList_store_mid rfl 38 (.tmp 2) (.tmp 83) rfl w.heap.size 0 Z6.toArray rfl rfl H4.out.there size_msg (all_oneCell_toArray (one6 _ _ _ _ _ _ _ _ _ _ _ _)) ?_)
            refine bodyPost_ret (results_cell_tmp_mid rfl _ _ w.heap.size 0 Z6 _ rfl (H4.out.stored Z6 rfl).1 Try.underlying38 rfl size_msg) rfl ?_
            exact HF.out _ (H4.out.stored Z6 rfl).2
      · rw [if_pos her] at hrdI
        have HF := Lib.hid fun w' => @fin er w' hrdI
        have hne : (er != 0) = true := bne_iff_ne.2 her
        have HO := Lib.hid hro
        clear hbs hl hsn fin hok hs1 hcells hcode hr4 hbadI hrdI hrM hcell hq hqc hkd hszv l0 l1 h4n hr5 hrt hro hat hl5 j5 hbad her hid0 hx1I
        rcases e3 with e3 | ⟨e3, e5⟩
        all_goals
          go_enter Try.func11, Try.ntmps11
          go_wp2_with fail
          refine (HA.out.1 _ (alloc_below w _)).mono ?_
          rintro e w1 ⟨rfl, m1, hw1⟩
          have Z1 := HZ.out.step (hw1 ▸ drewN_below _ _ m1 : Below (w.alloc (.cells Z6.toArray 38)).heap.size (w.alloc (.cells Z6.toArray 38)) w1)
          obtain ⟨d0, d1⟩ := HA.out.2.1 w1 Z1.bel
          have H1 := Lib.hid Z1
          clear hw1 Z1
          go_wp2
          go_quiet (fail)
          go_wp2_with fail
          refine (HA.out.2.2 _).mono ?_
          rintro e w2 ⟨rfl, hw2⟩
          have Z2 := H1.out.step (hw2 ▸ drewN_below _ _ _ : Below w1.heap.size w1 w2)
          have H2 := Lib.hid Z2
          clear hw2 Z2 d0 d1
          go_wp2
          go_quiet (fail)
          go_wp2_with fail
          refine (HO.out _ ((H2.out.bel).trans (drewN_below _ w.heap.size _))).mono ?_
          rintro e w3 ⟨oA, on, oc, vs, rfl, hoc, hom, hon, hos, b3, hfr⟩
          have Z3 := H2.out.step ((drewN_below w2 _ _).trans (b3.mono (drewN_below w2 w2.heap.size _).size))
          have H3 := Lib.hid Z3
          have K3 := Lib.hid (And.intro hos (And.intro hoc (And.intro hom hfr.out)))
          clear hoc hom hon hos b3 Z3 hfr
          try dsimp only
          go_wp2_with (refine wpList_store_mid rfl 38 (.tmp 2) (.tmp 72) rfl w.heap.size 0 Z6.toArray rfl rfl H3.out.there size_msg (all_oneCell_toArray (one6 _ _ _ _ _ _ _ _ _ _ _ _)) ?_)
          refine bodyPost_ret (results_cell_tmp_mid rfl _ _ w.heap.size 0 Z6 _ rfl (H3.out.stored Z6 rfl).1 Try.underlying38 rfl size_msg) rfl ?_
          exact HF.out _ (H3.out.stored Z6 rfl).2
  · have hs1 : sniffP l = (0, 0, false) := by unfold sniffP; rw [if_neg hok]
    rw [hs1] at hsn
    have HF := Lib.hid fun w' => @fin 20 w' (by unfold rdM; rw [if_pos (.inl hok)])
    have HA := Lib.hid hsn
    have HZ := Lib.hid (Zm.new_ w)
    clear hbs hl hsn fin hok hs1
    go_enter Try.func11, Try.ntmps11
    go_wp2_with fail
    refine (HA.out _ (alloc_below w _)).mono ?_
    rintro e w1 ⟨rfl, m1, hw1⟩
    have Z1 := HZ.out.step (hw1 ▸ drewN_below _ _ m1 : Below (w.alloc (.cells Z6.toArray 38)).heap.size (w.alloc (.cells Z6.toArray 38)) w1)
    have H1 := Lib.hid Z1
    clear hw1 Z1
    go_wp2_with (refine wpList_store_mid rfl 38 (.tmp 2) (.tmp 23) rfl w.heap.size 0 Z6.toArray rfl rfl H1.out.there size_msg (all_oneCell_toArray (one6 _ _ _ _ _ _ _ _ _ _ _ _)) ?_)
    have hf := H1.out.stored Z6 rfl
    refine bodyPost_ret (results_cell_tmp_mid rfl _ _ w.heap.size 0 Z6 _ rfl hf.1 Try.underlying38 rfl size_msg) rfl ?_
    exact HF.out _ hf.2
end Go.Proofs.Ytfbddldcbjhmiaa
