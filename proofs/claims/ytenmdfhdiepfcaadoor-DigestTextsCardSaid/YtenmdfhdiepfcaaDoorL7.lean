/- digest.Sum. -/
import Derived.Test.YtenmdfhdiepfcaaDoorL6
set_option linter.unusedVariables false
set_option linter.unusedSimpArgs false
namespace Go.Proofs.YtenmdfhdiepfcaaDoor
open Go Go.RowKit
attribute [local go_sem] Oper.semAt_some
/-- The two tables. -/
structure Tabs (w : World) : Prop where
  k : TabK w
  s : ∀ j, j < 8 → w.cell? ⟨0, j, none⟩ = some (.int .u32 ((start.getD j 0 : Nat) : Int))
  big : 1 < w.heap.size
theorem Tabs.below' {B : Nat} {w w' : World} (h : Tabs w) (hB : 1 < B) (hb : Below B w w') : Tabs w' :=
  ⟨fun j hj => (hb.cell (p := ⟨1, j, none⟩) hB).trans (h.k j hj), fun j hj => (hb.cell (p := ⟨0, j, none⟩) (by show 0 < _; omega)).trans (h.s j hj), Nat.lt_of_lt_of_le h.big hb.size⟩
def put8 (W : World) (g : Nat) (s : St) : World := ((((((((W.setCell ⟨g, 0, none⟩ (.int .u32 ((s.a : Nat) : Int))).setCell ⟨g, 1, none⟩ (.int .u32 ((s.b : Nat) : Int))).setCell ⟨g, 2, none⟩ (.int .u32 ((s.c : Nat) : Int))).setCell ⟨g, 3, none⟩ (.int .u32 ((s.d : Nat) : Int))).setCell ⟨g, 4, none⟩ (.int .u32 ((s.e : Nat) : Int))).setCell ⟨g, 5, none⟩ (.int .u32 ((s.f : Nat) : Int))).setCell ⟨g, 6, none⟩ (.int .u32 ((s.g : Nat) : Int))).setCell ⟨g, 7, none⟩ (.int .u32 ((s.h : Nat) : Int)))
section
variable {W : World} {g : Nat} {s s0 : St}
theorem put8_cells : ((((((((stW s0).setIfInBounds 0 (.int .u32 ((s.a : Nat) : Int))).setIfInBounds 1 (.int .u32 ((s.b : Nat) : Int))).setIfInBounds 2 (.int .u32 ((s.c : Nat) : Int))).setIfInBounds 3 (.int .u32 ((s.d : Nat) : Int))).setIfInBounds 4 (.int .u32 ((s.e : Nat) : Int))).setIfInBounds 5 (.int .u32 ((s.f : Nat) : Int))).setIfInBounds 6 (.int .u32 ((s.g : Nat) : Int))).setIfInBounds 7 (.int .u32 ((s.h : Nat) : Int)) = stW s := by simp [stW]
theorem put8_blk (h : Blk W g 60 (stW s0)) : Blk (put8 W g s) g 60 (stW s) := by
  rw [← put8_cells (s0 := s0) (s := s)]
  exact ((((((((h.set_ 0 _).set_ 1 _).set_ 2 _).set_ 3 _).set_ 4 _).set_ 5 _).set_ 6 _).set_ 7 _)
theorem put8_far {g' : Nat} {t : TypeId} {cs : Array Value} (h : Blk W g' t cs) (hne : g' ≠ g) : Blk (put8 W g s) g' t cs := ((((((((h.far hne _).far hne _).far hne _).far hne _).far hne _).far hne _).far hne _).far hne _)
theorem put8_below {B : Nat} {w : World} (h : Below B w W) (hB : B ≤ g) : Below B w (put8 W g s) := ((((((((h.setCell hB _).setCell hB _).setCell hB _).setCell hB _).setCell hB _).setCell hB _).setCell hB _).setCell hB _)
theorem put8_keeps : KeepsOthers W (put8 W g s) := ((((((((KeepsOthers.setCell _ _ _).trans (KeepsOthers.setCell _ _ _)).trans (KeepsOthers.setCell _ _ _)).trans (KeepsOthers.setCell _ _ _)).trans (KeepsOthers.setCell _ _ _)).trans (KeepsOthers.setCell _ _ _)).trans (KeepsOthers.setCell _ _ _)).trans (KeepsOthers.setCell _ _ _))
theorem put8_other {j : Nat} (h : j ≠ g) : (put8 W g s).heap[j]? = W.heap[j]? := by
  unfold put8
  rw [Below.heap_setCell _ _ _ j h]; rw [Below.heap_setCell _ _ _ j h]; rw [Below.heap_setCell _ _ _ j h]; rw [Below.heap_setCell _ _ _ j h]; rw [Below.heap_setCell _ _ _ j h]; rw [Below.heap_setCell _ _ _ j h]; rw [Below.heap_setCell _ _ _ j h]; rw [Below.heap_setCell _ _ _ j h]
theorem kp2_put8 {a b : Nat} (h1 : a ≠ g) (h2 : b ≠ g) : Kp2 a b W (put8 W g s) := ⟨put8_other h1, put8_other h2⟩
theorem kp2_below {w w' : World} {s t : Nat} (h : Below w.heap.size w w') (h1 : s < w.heap.size) (h2 : t < w.heap.size) : Kp2 s t w w' := ⟨h.block s h1, h.block t h2⟩
theorem keepsFrom_below {w w' : World} (h : Below w.heap.size w w') (B : Nat) : KeepsFrom B w w' :=
  ⟨h.size, fun k o _ hk _ => (h.block k (Array.getElem?_eq_some_iff.1 hk).1).trans hk⟩
theorem Blk.cell0 {w : World} {g : Nat} {t : TypeId} {v : Value} (h : Blk w g t #[v]) : w.cell? ⟨g, 0, none⟩ = some v := (h.cell 0).trans rfl
theorem Blk.cells {w w' : World} {g : Nat} {t : TypeId} {cs : Array Value} {row : Option Nat} (h : Blk w g t cs) (hg : w.grownBy w' row) (hr : ∀ r, row = some r → ∃ o : Obj, w.heap[r]? = some o ∧ o.isCells = false) : Blk w' g t cs :=
  h.grown hg (fun e => by
    obtain ⟨o, ho, hc⟩ := hr g e.symm
    unfold Blk at h
    rw [h] at ho
    injection ho with ho
    subst ho
    cases hc)
end
theorem addS_ok (s t : St) : (addS s t).ok := ⟨Nat.mod_lt _ (by omega), Nat.mod_lt _ (by omega), Nat.mod_lt _ (by omega), Nat.mod_lt _ (by omega), Nat.mod_lt _ (by omega), Nat.mod_lt _ (by omega), Nat.mod_lt _ (by omega), Nat.mod_lt _ (by omega)⟩
theorem start_ok : (stO start).ok := ⟨by decide, by decide, by decide, by decide, by decide, by decide, by decide, by decide⟩
/-- The state behind the pieces that have come. -/
def foldA (s : St) (l : List Nat) (q : Nat) (pre : List Nat) : St := pre.foldl (fun s x => absorb s (ch64 l (cl q x))) s
theorem foldA_snoc (s : St) (l : List Nat) (q : Nat) (pre : List Nat) (x : Nat) : foldA s l q (pre ++ [x]) = absorb (foldA s l q pre) (ch64 l (cl q x)) := by unfold foldA; rw [List.foldl_append]; rfl
theorem foldA_ok {s : St} (h : s.ok) (l : List Nat) (q : Nat) (pre : List Nat) : (foldA s l q pre).ok := by
  unfold foldA
  induction pre generalizing s with
  | nil => exact h
  | cons x pre ih => exact ih (addS_ok _ _)
theorem foldA_range (s : St) (l : List Nat) (q : Nat) : ∀ k, k ≤ q → foldA s l q (List.range k) = absAll s l k := by
  intro k
  induction k with
  | zero => intro _; simp [foldA, absAll]
  | succ k ih =>
    intro hk
    rw [List.range_succ, foldA_snoc, ih (by omega), cl_eq (by omega)]
    simp only [absAll, List.range_succ, List.foldl_append, List.foldl_cons, List.foldl_nil]
    unfold ch64 chk
    rfl
/-- What the variables hold between two rounds. -/
def NI (w : World) (s0 : St) (l : List Nat) (q : Nat) (pre : List Nat) (W : World) : Prop :=
  Below w.heap.size w W ∧ Blk W w.heap.size 25 b32 ∧ Blk W (w.heap.size + 1) 60 (stW (foldA s0 l q pre))
theorem NI_own (w : World) (s0 : St) (l : List Nat) (q : Nat) {B : Nat} (hB : w.heap.size ≤ B) : OwnFrom B (NI w s0 l q) := fun s W W' row h hg hr => by
  obtain ⟨h1, h2, h3⟩ := h
  have q : ∀ r, row = some r → ∃ o : Obj, W.heap[r]? = some o ∧ o.isCells = false := fun r e => (hr r e).2
  exact ⟨h1.grown hg h1.size (fun r e => Nat.le_trans hB (hr r e).1), h2.cells hg q, h3.cells hg q⟩
def NX (c : Code) (pre : List Nat) (W : World) : Prop := False
theorem NX_own (c : Code) {B : Nat} : OwnFrom B (NX c) := fun s W W' row h hg hr => h
/-- The second loop's: the mark of the first one stays. -/
def NJ (w : World) (D : Nat) (s0 : St) (l : List Nat) (q : Nat) (pre : List Nat) (W : World) : Prop := NI w s0 l q pre W ∧ W.heap[D]? = some (.deferred (some []))
theorem NJ_own (w : World) (D : Nat) (s0 : St) (l : List Nat) (q : Nat) {B : Nat} (hB : w.heap.size ≤ B) (hD : D < B) : OwnFrom B (NJ w D s0 l q) := fun s W W' row h hg hr =>
  ⟨NI_own w s0 l q hB s W W' row h.1 hg hr, (hg.block D (Array.getElem?_eq_some_iff.1 h.2).1 (fun e => by have := (hr D e.symm).1; omega)).trans h.2⟩
theorem chk_left {a b : List Nat} {q x : Nat} (ha : a.length = 64 * q) (hx : x < q) : chk (a ++ b) x = chk a x := by
  unfold chk
  rw [List.drop_append_of_le_length (by omega), List.take_append_of_le_length (by rw [List.length_drop]; omega)]
theorem chk_right {a b : List Nat} {q : Nat} (y : Nat) (ha : a.length = 64 * q) : chk (a ++ b) (q + y) = chk b y := by
  unfold chk
  rw [show 64 * (q + y) = a.length + 64 * y from by rw [ha, Nat.mul_add], List.drop_length_add_append]
theorem absAll_left (s : St) {a b : List Nat} {q : Nat} (ha : a.length = 64 * q) : ∀ k, k ≤ q → absAll s (a ++ b) k = absAll s a k := by
  intro k
  induction k with
  | zero => intro _; simp [absAll]
  | succ k ih =>
    intro hk
    have e := ih (by omega)
    unfold absAll at e ⊢
    simp only [List.range_succ, List.foldl_append, List.foldl_cons, List.foldl_nil]
    rw [e, chk_left ha (by omega)]
theorem absAll_append (s : St) {a b : List Nat} {q : Nat} (ha : a.length = 64 * q) : ∀ k, absAll s (a ++ b) (q + k) = absAll (absAll s a q) b k := by
  intro k
  induction k with
  | zero =>
    have e := absAll_left s (b := b) ha q (Nat.le_refl _)
    rw [Nat.add_zero, e]
    simp [absAll]
  | succ k ih =>
    have h1 : absAll s (a ++ b) (q + (k + 1)) = absorb (absAll s (a ++ b) (q + k)) (chk (a ++ b) (q + k)) := by
      rw [← Nat.add_assoc]
      simp only [absAll, List.range_succ, List.foldl_append, List.foldl_cons, List.foldl_nil]
    have h2 : absAll (absAll s a q) b (k + 1) = absorb (absAll (absAll s a q) b k) (chk b k) := by
      simp only [absAll, List.range_succ, List.foldl_append, List.foldl_cons, List.foldl_nil]
    rw [h1, h2, ih, chk_right k ha]
theorem sha_parts (l : List Nat) {n m q N : Nat} (hn : l.length = n) (hm : m = 64 * q) (hmn : m ≤ n) (hN : N = (padL (l.drop m) n).length) : sha l = wrt (absAll (absAll (stO start) (l.take m) q) (padL (l.drop m) n) (N / 64)) := by
  have hl : (l.take m).length = 64 * q := by rw [List.length_take]; omega
  have hz : zs (l.drop m).length = zs l.length := by unfold zs; rw [List.length_drop]; omega
  have hp : padL l l.length = l.take m ++ padL (l.drop m) n := by
    unfold padL
    rw [hz, hn, ← List.append_assoc, List.take_append_drop]
  unfold sha
  rw [hp, List.length_append, hl, ← hN, show (64 * q + N) / 64 = q + N / 64 from by omega, absAll_append _ hl]
theorem wpListIn_store_row {P : Program} {F : Fence} {nF : Nat} {ops : Array Oper} {rest : List Oper} {o : Oper} {a : Act} {w : World} {Q : Exit → Act → World → Prop} (hgd : o.guard = none) (ty : TypeId) (x y : Operand) (ho : o.op = .store ty x y)
    (g : Nat) (cells : Array Value) (hx : a.eval x = .pointer (some ⟨g, 0, none⟩)) (hy : a.eval y = .agg cells)
    (t : TypeId) (old : Array Value) (hg : w.heap[g]? = some (.cells old t (0, 0))) (hi : (P.info? ty).map (·.size) = some cells.size)
    (hold : old.size = cells.size) (h1 : cells.all (·.oneCell') = true)
    (h : wpListIn F nF P ops Q rest (a.put o.dst undef) (w.setRow g cells)) : wpListIn F nF P ops Q (o :: rest) a w := by
  refine wpListIn_plain hgd fun K hK => ?_
  unfold Oper.wpIn
  refine ⟨by simp [Oper.about, ho], ?_⟩
  rw [Oper.semAt_plain F _ _ (by rw [ho]; intro c hc'; cases hc')]
  simp only [execOp, ho, hx, hy, Instr.storeAt, Instr.sureAddr, Sem.run_bind, Sem.run_pure, Result.andThen_ok, run_storeVar_row w g t ty old cells hg hi hold h1]
  exact hK _ _ h
theorem wpListIn_load_row {P : Program} {F : Fence} {nF : Nat} {ops : Array Oper} {rest : List Oper} {o : Oper} {a : Act} {w : World} {Q : Exit → Act → World → Prop} (hgd : o.guard = none) (ty : TypeId) (x : Operand) (ho : o.op = .load ty x)
    (g : Nat) (hx : a.eval x = .pointer (some ⟨g, 0, none⟩)) (t : TypeId) (cs : Array Value) (fr : Nat × Nat) (d : TypeDesc) (hg : w.heap[g]? = some (.cells cs t fr))
    (hu : P.underlying ty = some d) (hd : (match d with | .struct _ | .array _ _ => true | _ => false) = true) (hi : (P.info? ty).map (·.size) = some cs.size)
    (h : wpListIn F nF P ops Q rest (a.put o.dst (.agg cs)) w) : wpListIn F nF P ops Q (o :: rest) a w := by
  refine wpListIn_plain hgd fun K hK => ?_
  unfold Oper.wpIn
  refine ⟨by simp [Oper.about, ho], ?_⟩
  rw [Oper.semAt_plain F _ _ (by rw [ho]; intro c hc'; cases hc')]
  simp only [execOp, ho, hx, Instr.loadAt, Instr.sureAddr, Sem.run_bind, Sem.run_pure, Result.andThen_ok, run_loadVar_row w g t ty cs fr d hg hu hd hi]
  exact hK _ _ h
theorem OB.bn {w : World} {base n c : Nat} {A : Option Addr} {l : List Nat} (h : OB w base (.slice A n c) l) (h8 : ∀ x ∈ l, x ≤ 255) : BN w w.heap.size A l := by
  intro i hi
  obtain ⟨g, e, h1, hc, hf⟩ := h.cell hi
  refine ⟨⟨g, 0, none⟩, e, ?_, ?_, h8 _ (List.getElem_mem hi)⟩
  · have := h.row g (by rw [e]; rfl)
    exact this.2
  · rw [add_at, Nat.zero_add]; exact hc
set_option maxRecDepth 100000 in
set_option maxHeartbeats 4000000 in
theorem sum_some (A : Addr) (n c : Nat) (l : List Nat) (w : World) (hT : Tabs w) (hA : BN w w.heap.size (some A) l) (hl : l.length = n) (hn : n ≤ 100000) (hc : n ≤ c) (hcm : c ≤ 9223372036854775807) :
    Calls Tryd.prog 12 #[.slice (some A) n c] w (fun e w' => e = .returned (hv (sha l)) ∧ Below w.heap.size w w') := by
  have hz := (zero_of_info info25).1
  rw [brow_zero] at hz
  replace hz : ∀ w, (zeroValue 25).run Tryd.prog w = .ok (.agg b32) w := hz
  have g0 : w.cell? ⟨0, 0, none⟩ = some (.int .u32 1779033703) := hT.s 0 (by omega)
  have g1 : w.cell? ⟨0, 1, none⟩ = some (.int .u32 3144134277) := hT.s 1 (by omega)
  have g2 : w.cell? ⟨0, 2, none⟩ = some (.int .u32 1013904242) := hT.s 2 (by omega)
  have g3 : w.cell? ⟨0, 3, none⟩ = some (.int .u32 2773480762) := hT.s 3 (by omega)
  have g4 : w.cell? ⟨0, 4, none⟩ = some (.int .u32 1359893119) := hT.s 4 (by omega)
  have g5 : w.cell? ⟨0, 5, none⟩ = some (.int .u32 2600822924) := hT.s 5 (by omega)
  have g6 : w.cell? ⟨0, 6, none⟩ = some (.int .u32 528734635) := hT.s 6 (by omega)
  have g7 : w.cell? ⟨0, 7, none⟩ = some (.int .u32 1541459225) := hT.s 7 (by omega)
  have hw1 : 1 < w.heap.size := hT.big
  have hw0 : 0 < w.heap.size := by omega
  have HT := hid hT
  have HA := hid hA
  have HL := hid hl
  obtain ⟨q, hq⟩ : ∃ q, q = n / 64 := ⟨_, rfl⟩
  obtain ⟨m, hm⟩ : ∃ m, m = n - n % 64 := ⟨_, rfl⟩
  have hmn : ((n : Nat) : Int) - ((n : Nat) : Int) % 64 = ((m : Nat) : Int) := by omega
  have HQ : Hid (m = 64 * q) := (show m = 64 * q by omega)
  have hm1 : m ≤ n := by omega
  have hm2 : m ≤ c := by omega
  have hr63 : n - m ≤ 63 := by omega
  obtain ⟨A2, hA2⟩ : ∃ A2, A2 = (if m = c then A else A.add m) := ⟨_, rfl⟩
  have hAd : (if m = c then A else A.add m) = A2 := hA2.symm
  have HB2 : Hid (BN w w.heap.size (some A2) (l.drop m)) := by
    intro i hi
    have hi2 : m + i < l.length := by rw [List.length_drop] at hi; omega
    obtain ⟨ad, e, h1, h2, h3⟩ := hA (m + i) hi2
    injection e with e
    subst e
    have hne : ¬ m = c := by rw [hl] at hi2; omega
    rw [if_neg hne] at hA2
    rw [List.getElem_drop]
    exact ⟨A2, rfl, by rw [hA2, block_of_add]; exact h1, by rw [hA2, add_of_add]; exact h2, h3⟩
  clear hT hA hl hq hm hA2
  refine callsIn_wide (n := 5) |>.1 ?_
  refine callsIn_of_wp_marks Tryd.func12 rfl trivial ?_ rfl
  simp only [Tryd.ntmps12, List.size_toArray, List.length_cons, List.length_nil, Nat.reduceAdd, Nat.reduceSub, Array.replicate_succ, Array.replicate_zero, List.push_toArray, List.append_toArray, List.nil_append, List.cons_append]
  gi_wp2_with (refine ⟨trivial, ?_⟩; gi_at_call 32; refine (callsIn_wide.2 (chunk_any64 (some A) _ c _)).mono ?_; rintro e w' ⟨rfl, rfl⟩)
  (try simp only [World.size_alloc])
  have q0 := Blk.new w 25 b32
  have q1 := Blk.new (w.alloc (.cells b32 25)) 60 (stW (stO start))
  have q4 := Blk.new ((w.alloc (.cells b32 25)).alloc (.cells (stW (stO start)) 60)) 22 #[.slice (some A) m c]
  have q5 := Blk.new (((w.alloc (.cells b32 25)).alloc (.cells (stW (stO start)) 60)).alloc (.cells #[.slice (some A) m c] 22)) 3 #[.int .i64 64]
  have WW := ((((Below.refl _ w).alloc (Nat.le_refl _) (.cells b32 25)).alloc (by simp) (.cells (stW (stO start)) 60)).alloc (by simp; omega) (.cells #[.slice (some A) m c] 22)).alloc (by simp; omega) (.cells #[.int .i64 64] 3)
  replace q0 := ((q0.alloc (.cells (stW (stO start)) 60)).alloc (.cells #[.slice (some A) m c] 22)).alloc (.cells #[.int .i64 64] 3)
  replace q1 := (q1.alloc (.cells #[.slice (some A) m c] 22)).alloc (.cells #[.int .i64 64] 3)
  replace q4 := q4.alloc (.cells #[.int .i64 64] 3)
  have hz : ((((w.alloc (.cells b32 25)).alloc (.cells (stW (stO start)) 60)).alloc (.cells #[.slice (some A) m c] 22)).alloc (.cells #[.int .i64 64] 3)).heap.size = w.heap.size + 1 + 1 + 1 + 1 := by simp
  simp only [World.size_alloc] at q0 q1 q4 q5
  obtain ⟨V0, hV⟩ : ∃ V0, V0 = (((w.alloc (.cells b32 25)).alloc (.cells (stW (stO start)) 60)).alloc (.cells #[.slice (some A) m c] 22)).alloc (.cells #[.int .i64 64] 3) := ⟨_, rfl⟩
  rw [← hV] at q0 q1 q4 q5 WW hz
  change Code.wpIn _ _ _ _ _ _ ((((w.alloc (.cells b32 25)).alloc (.cells (stW (stO start)) 60)).alloc (.cells #[.slice (some A) m c] 22)).alloc (.cells #[.int .i64 64] 3))
  rw [← hV]
  clear hV
  have HZ := hid hz
  have hsz : w.heap.size + 1 + 1 + 1 < V0.heap.size := by omega
  clear hz g0 g1 g2 g3 g4 g5 g6 g7
  have HLm : Hid ((l.take m).length = 64 * q) := (show (l.take m).length = 64 * q by rw [List.length_take, HL.out, HQ.out]; have := HQ.out; omega)
  have HBm : Hid (BN w w.heap.size (some A) (l.take m)) := by
    intro i hi
    have hi2 : i < l.length := by rw [List.length_take] at hi; omega
    obtain ⟨ad, e, h1, h2, h3⟩ := HA.out i hi2
    exact ⟨ad, e, h1, by rw [List.getElem_take]; exact h2, by rw [List.getElem_take]; exact h3⟩
  refine wpIn_rangeFunc_ownG rfl (by decide) (gf := 55) (lb := #[.pointer (some ⟨w.heap.size + 1 + 1, 0, none⟩), .pointer (some ⟨w.heap.size + 1 + 1 + 1, 0, none⟩)]) rfl trivial (enters_of Tryd.func55 (by kernel_rfl) rfl)
    (chunk_stops64 4 (w.heap.size + 1 + 1) (w.heap.size + 1 + 1 + 1) (some A) A m q c HQ.out (by omega) hm2 hcm (fun _ => rfl) V0 (by omega) hsz q4.cell0 q5.cell0) (fun h k => h.trans k) (fun W l o o' hl _ _ _ => Kp2.putObj W o' (by omega) (by omega)) (Below.refl _ _) (fun _ => rfl)
    (fun pre W => NI w (stO start) (l.take m) q pre W ∧ w.heap.size + 1 + 1 + 1 < W.heap.size) (fun c' pre W => NX c' pre W) (fun s W W' row h hg hr => ⟨NI_own w (stO start) (l.take m) q (by omega) s W W' row h.1 hg hr, Nat.lt_of_lt_of_le h.2 hg.size⟩) (fun c' => NX_own c')
    ⟨⟨WW, q0, q1⟩, hsz⟩
    (fun x => { tmps := #[.slice (some A) n c, undef, .pointer (some ⟨w.heap.size, 0, none⟩), .pointer (some ⟨w.heap.size + 1, 0, none⟩), .int .i64 ((m : Nat) : Int), (.slice (some (A.add (64 * cl q x))) 64 64), undef, .agg #[.int .u32 1779033703, .int .u32 3144134277, .int .u32 1013904242, .int .u32 2773480762, .int .u32 1359893119, .int .u32 2600822924, .int .u32 528734635, .int .u32 1541459225], .slice (some A) n c, .int .i64 ((n : Nat) : Int), .slice (some A) n c, .int .i64 ((n : Nat) : Int), .int .i64 (((n : Nat) : Int) % 64), .int .i64 ((m : Nat) : Int), .slice (some A) n c, .int .i64 ((m : Nat) : Int), .slice (some A) m c, .func (.func 55) #[] #[.pointer (some ⟨w.heap.size + 1 + 1, 0, none⟩), .pointer (some ⟨w.heap.size + 1 + 1 + 1, 0, none⟩)], (.slice (some (A.add (64 * cl q x))) 64 64), undef, undef, undef, undef, undef, undef, undef, undef, undef, undef, undef, undef, undef, undef, undef, undef], defers := [] }) ?assign ?body ?done ?stop
  case assign =>
    intro l x W K hK
    gi_wp2
    exact hK
  case body =>
    rintro lp pre x W ⟨⟨h1, b0, b1⟩, hbig⟩ hlen
    have hT := HT.out.below' hw1 h1
    have hBN : BN W W.heap.size (some (A.add (64 * cl q x))) (ch64 (l.take m) (cl q x)) := by
      intro i hi
      obtain ⟨ad, e, g1, g2⟩ := (HBm.out.below h1).piece64 (cl q x) i hi
      exact ⟨ad, e, Nat.lt_of_lt_of_le g1 h1.size, g2⟩
    have hlc : (ch64 (l.take m) (cl q x)).length = 64 := by
      have := HLm.out
      have := cl_lt (q := q) (x := x) hlen
      unfold ch64
      rw [List.length_take, List.length_drop, HLm.out]
      omega
    obtain ⟨s, hs⟩ : ∃ s, s = foldA (stO start) (l.take m) q pre := ⟨_, rfl⟩
    have hok : s.ok := by rw [hs]; exact foldA_ok start_ok _ _ _
    rw [← hs] at b1
    have hc := absorbed_any _ 64 _ s W hok hT.k hT.big hlc hBN (Nat.le_refl _) (by decide)
    have HF : Hid (foldA (stO start) (l.take m) q (pre ++ [x]) = absorb s (ch64 (l.take m) (cl q x))) := (show _ = _ by rw [foldA_snoc, hs])
    generalize absorb s (ch64 (l.take m) (cl q x)) = s2 at hc HF
    clear hBN hlc hs
    have HC := hid hc
    clear hc
    have k0 : W.cell? ⟨w.heap.size + 1, 0, none⟩ = some (.int .u32 ((s.a : Nat) : Int)) := b1.cell 0
    have k1 : W.cell? ⟨w.heap.size + 1, 1, none⟩ = some (.int .u32 ((s.b : Nat) : Int)) := b1.cell 1
    have k2 : W.cell? ⟨w.heap.size + 1, 2, none⟩ = some (.int .u32 ((s.c : Nat) : Int)) := b1.cell 2
    have k3 : W.cell? ⟨w.heap.size + 1, 3, none⟩ = some (.int .u32 ((s.d : Nat) : Int)) := b1.cell 3
    have k4 : W.cell? ⟨w.heap.size + 1, 4, none⟩ = some (.int .u32 ((s.e : Nat) : Int)) := b1.cell 4
    have k5 : W.cell? ⟨w.heap.size + 1, 5, none⟩ = some (.int .u32 ((s.f : Nat) : Int)) := b1.cell 5
    have k6 : W.cell? ⟨w.heap.size + 1, 6, none⟩ = some (.int .u32 ((s.g : Nat) : Int)) := b1.cell 6
    have k7 : W.cell? ⟨w.heap.size + 1, 7, none⟩ = some (.int .u32 ((s.h : Nat) : Int)) := b1.cell 7
    have zb := b1.lt
    gi_wp2_with (refine ⟨trivial, ?_⟩; gi_at_call 33; refine (callsIn_wide.2 HC.out).mono ?_; rintro e W2 ⟨rfl, hb⟩; unfold stV; have c1 := b1.below hb b1.lt; have k0 : W2.cell? ⟨w.heap.size + 1, 0, none⟩ = some (.int .u32 ((s.a : Nat) : Int)) := c1.cell 0; have e0 := c1.frozen 0; have k1 : W2.cell? ⟨w.heap.size + 1, 1, none⟩ = some (.int .u32 ((s.b : Nat) : Int)) := c1.cell 1; have e1 := c1.frozen 1; have k2 : W2.cell? ⟨w.heap.size + 1, 2, none⟩ = some (.int .u32 ((s.c : Nat) : Int)) := c1.cell 2; have e2 := c1.frozen 2; have k3 : W2.cell? ⟨w.heap.size + 1, 3, none⟩ = some (.int .u32 ((s.d : Nat) : Int)) := c1.cell 3; have e3 := c1.frozen 3; have k4 : W2.cell? ⟨w.heap.size + 1, 4, none⟩ = some (.int .u32 ((s.e : Nat) : Int)) := c1.cell 4; have e4 := c1.frozen 4; have k5 : W2.cell? ⟨w.heap.size + 1, 5, none⟩ = some (.int .u32 ((s.f : Nat) : Int)) := c1.cell 5; have e5 := c1.frozen 5; have k6 : W2.cell? ⟨w.heap.size + 1, 6, none⟩ = some (.int .u32 ((s.g : Nat) : Int)) := c1.cell 6; have e6 := c1.frozen 6; have k7 : W2.cell? ⟨w.heap.size + 1, 7, none⟩ = some (.int .u32 ((s.h : Nat) : Int)) := c1.cell 7; have e7 := c1.frozen 7)
    clear HC
    have hk := kp2_below hb (s := w.heap.size + 1 + 1) (t := w.heap.size + 1 + 1 + 1) (by omega) hbig
    have hkf := keepsFrom_below hb V0.heap.size
    have b1' : Blk W2 (w.heap.size + 1) 60 (stW s) := b1.below hb b1.lt
    replace b0 := b0.below hb b0.lt
    replace h1 := h1.trans (hb.mono h1.size)
    change KeepsFrom V0.heap.size W (put8 W2 (w.heap.size + 1) s2) ∧ Kp2 (w.heap.size + 1 + 1) (w.heap.size + 1 + 1 + 1) W (put8 W2 (w.heap.size + 1) s2) ∧ NI w (stO start) (l.take m) q (pre ++ [x]) (put8 W2 (w.heap.size + 1) s2) ∧ w.heap.size + 1 + 1 + 1 < (put8 W2 (w.heap.size + 1) s2).heap.size
    exact ⟨hkf.trans (put8_keeps.from _), hk.trans (kp2_put8 (by omega) (by omega)), ⟨put8_below h1 (by omega), put8_far b0 (by omega), by rw [HF.out]; exact put8_blk b1'⟩, Nat.lt_of_lt_of_le hbig (Nat.le_trans hb.size put8_keeps.size)⟩
  case done =>
    rintro D ys W hD rfl ⟨⟨h1, b0, b1⟩, hbig⟩ hK
    rw [foldA_range _ _ _ q (Nat.le_refl _)] at b1
    obtain ⟨s1, hs1⟩ : ∃ s, s = absAll (stO start) (l.take m) q := ⟨_, rfl⟩
    have hok1 : s1.ok := by rw [hs1, ← foldA_range _ _ q q (Nat.le_refl _)]; exact foldA_ok start_ok _ _ _
    rw [← hs1] at b1
    have HS1 := hid hs1
    clear hs1
    have hBN2 : BN W W.heap.size (some A2) (l.drop m) := by
      intro i hi
      obtain ⟨ad, e, g1, g2⟩ := (HB2.out.below h1) i hi
      exact ⟨ad, e, Nat.lt_of_lt_of_le g1 h1.size, g2⟩
    have hc2 := padded_any (some A2) (c - m) (l.drop m) n (n - m) W (fun h => by cases h) hBN2 (by rw [List.length_drop, HL.out]) hr63 (by omega)
    obtain ⟨P, hP⟩ : ∃ P, P = padL (l.drop m) n := ⟨_, rfl⟩
    obtain ⟨N, hN⟩ : ∃ N, N = P.length := ⟨_, rfl⟩
    have hN64 : N = 64 * (N / 64) ∧ N ≤ 1000 ∧ 64 ≤ N := by
      rw [hN, hP]
      unfold padL
      simp only [List.length_append, List.length_cons, List.length_replicate, n8_len, List.length_drop, HL.out]
      unfold zs
      omega
    rw [← hP] at hc2
    have HN64 := hid hN64
    have hN1 : N ≤ 1000 := hN64.2.1
    have hN0 : 64 ≤ N := hN64.2.2
    clear hN64
    have HP := hid hP
    have HN := hid hN
    have hP8 : ∀ x ∈ P, x ≤ 255 := by
      rw [hP]
      unfold padL
      intro x hx
      rcases List.mem_append.1 hx with hx | hx
      · obtain ⟨i, hi, rfl⟩ := List.getElem_of_mem hx
        obtain ⟨_, _, _, _, h3⟩ := HB2.out i hi
        exact h3
      · rcases List.mem_cons.1 hx with rfl | hx
        · omega
        · rcases List.mem_append.1 hx with hx | hx
          · rw [(List.mem_replicate.1 hx).2]; omega
          · simp only [n8, List.mem_map] at hx
            obtain ⟨i, _, rfl⟩ := hx
            have := Nat.mod_lt (8 * n / 2 ^ (56 - 8 * i)) (show 0 < 256 by omega)
            omega
    have HC2 := hid hc2
    clear hc2 hP hN hBN2
    have hDW := (Array.getElem?_eq_some_iff.1 hK).1
    have hcase : ((c = m) = False ∧ A2 = A.add m) ∨ ((c = m) = True ∧ A2 = A) := by
      by_cases h : m = c
      · exact .inr ⟨eq_true h.symm, by rw [← hAd, if_pos h]⟩
      · exact .inl ⟨eq_false (fun e => h e.symm), by rw [← hAd, if_neg h]⟩
    clear hAd HB2
    have HP8 := hid hP8
    clear hP8
    rcases hcase with ⟨hmc, rfl⟩ | ⟨hmc, rfl⟩
    · gi_wp2_with (refine ⟨trivial, ?_⟩; gi_at_call 34; refine (callsIn_wide.2 HC2.out).mono ?_; rintro e W2 ⟨v2, rfl, O2, hb2⟩)
      obtain ⟨A3, c3, e3⟩ := O2.slc
      rw [← HN.out] at e3
      subst e3
      obtain ⟨ad3, rfl, _⟩ := O2.src (by rw [← HN.out]; omega)
      obtain ⟨gg, eg, hge, _, _⟩ := O2.cell (i := 0) (by rw [← HN.out]; omega)
      have had3 : W.heap.size ≤ ad3.block := by injection eg with eg; rw [eg]; exact hge
      have had4 : ad3.block < W2.heap.size := by
        obtain ⟨ad', e, h, _⟩ := (O2.bn HP8.out) 0 (by rw [← HN.out]; omega)
        injection e with e
        rw [e]; exact h
      clear eg hge
      have hB3 := O2.bn HP8.out
      have hc3 := O2.cap
      rw [← HN.out] at hc3
      refine ⟨trivial, ?_⟩
      refine (callsIn_wide.2 (chunk_any64 (some ad3) _ c3 _)).mono ?_
      rintro e w' ⟨rfl, rfl⟩
      gi_wp2
      have hbig2 : w.heap.size + 1 + 1 + 1 < W2.heap.size := Nat.lt_of_lt_of_le hbig hb2.size
      have r4 := (Blk.new W2 22 #[.slice (some ad3) N c3]).alloc (.cells #[.int .i64 64] 3)
      have r5 := Blk.new (W2.alloc (.cells #[.slice (some ad3) N c3] 22)) 3 #[.int .i64 64]
      rw [World.size_alloc] at r5
      have d0 := ((b0.below hb2 b0.lt).alloc (.cells #[.slice (some ad3) N c3] 22)).alloc (.cells #[.int .i64 64] 3)
      have d1 := ((b1.below hb2 b1.lt).alloc (.cells #[.slice (some ad3) N c3] 22)).alloc (.cells #[.int .i64 64] 3)
      have hb3 := (hb2.alloc hb2.size (.cells #[.slice (some ad3) N c3] 22)).alloc (Nat.le_trans hb2.size (by simp)) (.cells #[.int .i64 64] 3)
      have hz3 : ((W2.alloc (.cells #[.slice (some ad3) N c3] 22)).alloc (.cells #[.int .i64 64] 3)).heap.size = W2.heap.size + 1 + 1 := by simp
      have hB4 : BN ((W2.alloc (.cells #[.slice (some ad3) N c3] 22)).alloc (.cells #[.int .i64 64] 3)) W2.heap.size (some ad3) P := hB3.below (((Below.refl W2.heap.size W2).alloc (Nat.le_refl _) _).alloc (by simp) _)
      obtain ⟨V3, hV⟩ : ∃ V3, V3 = (W2.alloc (.cells #[.slice (some ad3) N c3] 22)).alloc (.cells #[.int .i64 64] 3) := ⟨_, rfl⟩
      rw [← hV] at r4 r5 d0 d1 hb3 hz3 hB4 ⊢
      clear hV
      have hK3 : V3.heap[D]? = some (.deferred (some [])) := (hb3.block D hDW).trans hK
      have H1 := h1.trans (hb3.mono h1.size)
      have HZ3 := hid hz3
      have hsz3 : W2.heap.size + 1 < V3.heap.size := by omega
      clear hz3
      refine wpIn_rangeFunc_ownG rfl (by decide) (gf := 55) (lb := #[.pointer (some ⟨W2.heap.size, 0, none⟩), .pointer (some ⟨W2.heap.size + 1, 0, none⟩)]) rfl trivial (enters_of Tryd.func55 (by kernel_rfl) rfl)
        (chunk_stops64 4 (W2.heap.size) (W2.heap.size + 1) (some ad3) ad3 N (N / 64) c3 HN64.out.1 (by omega) hc3.1 hc3.2 (fun _ => rfl) V3 (by omega) hsz3 r4.cell0 r5.cell0) (fun h k => h.trans k) (fun W l o o' hl _ _ _ => Kp2.putObj W o' (by omega) (by omega)) (Below.refl _ _) (fun _ => rfl)
        (fun pre W => NJ w D s1 P (N / 64) pre W ∧ W.heap[ad3.block]? = V3.heap[ad3.block]? ∧ V3.heap.size ≤ W.heap.size) (fun c' pre W => NX c' pre W) (fun s W W' row h hg hr => ⟨NJ_own w D s1 P (N / 64) (by omega) (by omega) s W W' row h.1 hg hr, (hg.block ad3.block (by omega) (fun e => by have := (hr _ e.symm).1; omega)).trans h.2.1, Nat.le_trans h.2.2 hg.size⟩) (fun c' => NX_own c')
        ⟨⟨⟨H1, d0, d1⟩, hK3⟩, rfl, Nat.le_refl _⟩
        (fun x => { tmps := #[.slice (some A) n c, undef, .pointer (some ⟨w.heap.size, 0, none⟩), .pointer (some ⟨w.heap.size + 1, 0, none⟩), .int .i64 ((m : Nat) : Int), undef, (.slice (some (ad3.add (64 * cl (N / 64) x))) 64 64), .agg #[.int .u32 1779033703, .int .u32 3144134277, .int .u32 1013904242, .int .u32 2773480762, .int .u32 1359893119, .int .u32 2600822924, .int .u32 528734635, .int .u32 1541459225], .slice (some A) n c, .int .i64 ((n : Nat) : Int), .slice (some A) n c, .int .i64 ((n : Nat) : Int), .int .i64 (((n : Nat) : Int) % 64), .int .i64 ((m : Nat) : Int), .slice (some A) n c, .int .i64 ((m : Nat) : Int), .slice (some A) m c, .func (.func 55) #[] #[.pointer (some ⟨w.heap.size + 1 + 1, 0, none⟩), .pointer (some ⟨w.heap.size + 1 + 1 + 1, 0, none⟩)], undef, undef, undef, undef, .slice (some A) n c, .int .i64 ((m : Nat) : Int), .slice (some (A.add m)) (n - m) (c - m), .slice (some A) n c, .int .i64 ((n : Nat) : Int), .slice (some ad3) N c3, .func (.func 55) #[] #[.pointer (some ⟨W2.heap.size, 0, none⟩), .pointer (some ⟨W2.heap.size + 1, 0, none⟩)], (.slice (some (ad3.add (64 * cl (N / 64) x))) 64 64), undef, undef, undef, undef, undef], defers := [] }) ?assign2 ?body2 ?done2 ?stop2
      case assign2 =>
        intro l x W K hK
        gi_wp2
        exact hK
      case body2 =>
        rintro lp pre x U ⟨⟨⟨e1, c0, c1⟩, hKU⟩, hsame, hUs⟩ hlen
        have hT := HT.out.below' hw1 e1
        have hBN : BN U U.heap.size (some (ad3.add (64 * cl (N / 64) x))) (ch64 P (cl (N / 64) x)) := by
          have hBU : BN U U.heap.size (some ad3) P := fun i hi => by
            obtain ⟨ad, e, g1, g2, g3⟩ := hB4 i hi
            injection e with e
            subst e
            exact ⟨ad3, rfl, by omega, (World.cell?_of_block (a := ad3.add i) (by rw [block_of_add]; exact hsame)).trans g2, g3⟩
          exact hBU.piece64 _
        have hlc : (ch64 P (cl (N / 64) x)).length = 64 := by
          have := HN64.out.1
          have := cl_lt (q := N / 64) (x := x) hlen
          unfold ch64
          rw [List.length_take, List.length_drop, ← HN.out]
          omega
        obtain ⟨s, hs⟩ : ∃ s, s = foldA s1 P (N / 64) pre := ⟨_, rfl⟩
        have hok : s.ok := by rw [hs]; exact foldA_ok hok1 _ _ _
        rw [← hs] at c1
        have hc := absorbed_any _ 64 _ s U hok hT.k hT.big hlc hBN (Nat.le_refl _) (by decide)
        have HF : Hid (foldA s1 P (N / 64) (pre ++ [x]) = absorb s (ch64 P (cl (N / 64) x))) := (show _ = _ by rw [foldA_snoc, hs])
        generalize absorb s (ch64 P (cl (N / 64) x)) = s2 at hc HF
        clear hBN hlc hs
        have HC := hid hc
        clear hc
        have k0 : U.cell? ⟨w.heap.size + 1, 0, none⟩ = some (.int .u32 ((s.a : Nat) : Int)) := c1.cell 0
        have k1 : U.cell? ⟨w.heap.size + 1, 1, none⟩ = some (.int .u32 ((s.b : Nat) : Int)) := c1.cell 1
        have k2 : U.cell? ⟨w.heap.size + 1, 2, none⟩ = some (.int .u32 ((s.c : Nat) : Int)) := c1.cell 2
        have k3 : U.cell? ⟨w.heap.size + 1, 3, none⟩ = some (.int .u32 ((s.d : Nat) : Int)) := c1.cell 3
        have k4 : U.cell? ⟨w.heap.size + 1, 4, none⟩ = some (.int .u32 ((s.e : Nat) : Int)) := c1.cell 4
        have k5 : U.cell? ⟨w.heap.size + 1, 5, none⟩ = some (.int .u32 ((s.f : Nat) : Int)) := c1.cell 5
        have k6 : U.cell? ⟨w.heap.size + 1, 6, none⟩ = some (.int .u32 ((s.g : Nat) : Int)) := c1.cell 6
        have k7 : U.cell? ⟨w.heap.size + 1, 7, none⟩ = some (.int .u32 ((s.h : Nat) : Int)) := c1.cell 7
        have zb := c1.lt
        gi_wp2_with (refine ⟨trivial, ?_⟩; gi_at_call 33; refine (callsIn_wide.2 HC.out).mono ?_; rintro e U2 ⟨rfl, hb⟩; unfold stV; have cc1 := c1.below hb c1.lt; have k0 : U2.cell? ⟨w.heap.size + 1, 0, none⟩ = some (.int .u32 ((s.a : Nat) : Int)) := cc1.cell 0; have ee0 := cc1.frozen 0; have k1 : U2.cell? ⟨w.heap.size + 1, 1, none⟩ = some (.int .u32 ((s.b : Nat) : Int)) := cc1.cell 1; have ee1 := cc1.frozen 1; have k2 : U2.cell? ⟨w.heap.size + 1, 2, none⟩ = some (.int .u32 ((s.c : Nat) : Int)) := cc1.cell 2; have ee2 := cc1.frozen 2; have k3 : U2.cell? ⟨w.heap.size + 1, 3, none⟩ = some (.int .u32 ((s.d : Nat) : Int)) := cc1.cell 3; have ee3 := cc1.frozen 3; have k4 : U2.cell? ⟨w.heap.size + 1, 4, none⟩ = some (.int .u32 ((s.e : Nat) : Int)) := cc1.cell 4; have ee4 := cc1.frozen 4; have k5 : U2.cell? ⟨w.heap.size + 1, 5, none⟩ = some (.int .u32 ((s.f : Nat) : Int)) := cc1.cell 5; have ee5 := cc1.frozen 5; have k6 : U2.cell? ⟨w.heap.size + 1, 6, none⟩ = some (.int .u32 ((s.g : Nat) : Int)) := cc1.cell 6; have ee6 := cc1.frozen 6; have k7 : U2.cell? ⟨w.heap.size + 1, 7, none⟩ = some (.int .u32 ((s.h : Nat) : Int)) := cc1.cell 7; have ee7 := cc1.frozen 7)
        clear HC
        have hk := kp2_below hb (s := W2.heap.size) (t := W2.heap.size + 1) (by omega) (by omega)
        have hkf := keepsFrom_below hb V3.heap.size
        have c1' : Blk U2 (w.heap.size + 1) 60 (stW s) := c1.below hb c1.lt
        replace c0 := c0.below hb c0.lt
        replace e1 := e1.trans (hb.mono e1.size)
        have hKU2 := (hb.block D (Array.getElem?_eq_some_iff.1 hKU).1).trans hKU
        have hsame2 := (hb.block ad3.block (by omega)).trans hsame
        change KeepsFrom V3.heap.size U (put8 U2 (w.heap.size + 1) s2) ∧ Kp2 (W2.heap.size) (W2.heap.size + 1) U (put8 U2 (w.heap.size + 1) s2) ∧ NJ w D s1 P (N / 64) (pre ++ [x]) (put8 U2 (w.heap.size + 1) s2) ∧ (put8 U2 (w.heap.size + 1) s2).heap[ad3.block]? = V3.heap[ad3.block]? ∧ V3.heap.size ≤ (put8 U2 (w.heap.size + 1) s2).heap.size
        exact ⟨hkf.trans (put8_keeps.from _), hk.trans (kp2_put8 (by omega) (by omega)), ⟨⟨put8_below e1 (by omega), put8_far c0 (by omega), by rw [HF.out]; exact put8_blk c1'⟩, (put8_other (by omega)).trans hKU2⟩, (put8_other (by omega)).trans hsame2, Nat.le_trans hUs (Nat.le_trans hb.size put8_keeps.size)⟩
      case done2 =>
        rintro D2 ys U hD2 rfl ⟨⟨⟨e1, c0, c1⟩, hKU⟩, _, hUs⟩ hKD
        rw [foldA_range _ _ _ _ (Nat.le_refl _)] at c1
        obtain ⟨s2, hs2⟩ : ∃ s, s = absAll s1 P (N / 64) := ⟨_, rfl⟩
        rw [← hs2] at c1
        have HS2 := hid hs2
        clear hs2
        have hc := written_any s2 U
        have HC := hid hc
        clear hc
        have k0 : U.cell? ⟨w.heap.size + 1, 0, none⟩ = some (.int .u32 ((s2.a : Nat) : Int)) := c1.cell 0
        have k1 : U.cell? ⟨w.heap.size + 1, 1, none⟩ = some (.int .u32 ((s2.b : Nat) : Int)) := c1.cell 1
        have k2 : U.cell? ⟨w.heap.size + 1, 2, none⟩ = some (.int .u32 ((s2.c : Nat) : Int)) := c1.cell 2
        have k3 : U.cell? ⟨w.heap.size + 1, 3, none⟩ = some (.int .u32 ((s2.d : Nat) : Int)) := c1.cell 3
        have k4 : U.cell? ⟨w.heap.size + 1, 4, none⟩ = some (.int .u32 ((s2.e : Nat) : Int)) := c1.cell 4
        have k5 : U.cell? ⟨w.heap.size + 1, 5, none⟩ = some (.int .u32 ((s2.f : Nat) : Int)) := c1.cell 5
        have k6 : U.cell? ⟨w.heap.size + 1, 6, none⟩ = some (.int .u32 ((s2.g : Nat) : Int)) := c1.cell 6
        have k7 : U.cell? ⟨w.heap.size + 1, 7, none⟩ = some (.int .u32 ((s2.h : Nat) : Int)) := c1.cell 7
        have hi32 : (Tryd.prog.info? 25).map (·.size) = some (brow (wrt s2)).size := by rw [brow_size, wrt_len]; kernel_rfl
        have ho32 : b32.size = (brow (wrt s2)).size := by rw [brow_size, wrt_len]; rfl
        have HI := hid hi32
        have HO := hid ho32
        have HC0 := hid c0
        clear hi32 ho32
        gi_wp2_with (first | (refine ⟨trivial, ?_⟩; gi_at_call 35; refine (callsIn_wide.2 HC.out).mono ?_; rintro e U2 ⟨rfl, hb⟩) | (refine wpListIn_store_row rfl 25 (.tmp 2) (.tmp 34) rfl w.heap.size (brow (wrt s2)) rfl rfl 25 b32 (HC0.out.below hb HC0.out.lt) HI.out HO.out (brow_one _) ?_))
        have HK2 : (U2.setRow w.heap.size (brow (wrt s2))).heap[D2]? = some (.deferred (some [])) := (setRow_other U2 w.heap.size D2 _ (by omega)).trans ((hb.block D2 (Array.getElem?_eq_some_iff.1 hKD).1).trans hKD)
        have HK1 : (U2.setRow w.heap.size (brow (wrt s2))).heap[D]? = some (.deferred (some [])) := (setRow_other U2 w.heap.size D _ (by omega)).trans ((hb.block D (Array.getElem?_eq_some_iff.1 hKU).1).trans hKU)
        have c2 := (c0.below hb c0.lt).setRow_ (brow (wrt s2))
        have E1 := below_setRow_ (e1.trans (hb.mono e1.size)) (Nat.le_refl _) (brow (wrt s2))
        have HS : Hid (sha l = wrt s2) := (show sha l = wrt s2 by rw [sha_parts l HL.out HQ.out hm1 (HN.out.trans (by rw [HP.out])), ← HS1.out, ← HP.out, ← HS2.out])
        generalize U2.setRow w.heap.size (brow (wrt s2)) = U3 at HK1 HK2 c2 E1 ⊢
        have G2 := grownBy_putObj' U3 D2 (.deferred none)
        have c3' := c2.cells G2 (fun r e => by cases e; exact ⟨_, HK2, rfl⟩)
        have E2 := E1.grown G2 E1.size (fun r e => by cases e; omega)
        have HK1' : (U3.putObj D2 (.deferred none)).heap[D]? = some (.deferred (some [])) := (World.putObj_heap_other (by omega)).trans HK1
        generalize hU4 : U3.putObj D2 (.deferred none) = U4 at c3' E2 HK1'
        have G1 := grownBy_putObj' U4 D (.deferred none)
        have c4 := c3'.cells G1 (fun r e => by cases e; exact ⟨_, HK1', rfl⟩)
        have E3 := E2.grown G1 E2.size (fun r e => by cases e; omega)
        refine ⟨by simp, .inl ⟨_, _, rfl, run_takeDeferred HK2, ?_⟩⟩
        rw [hU4]
        refine ⟨by simp, .inl ⟨_, _, rfl, run_takeDeferred HK1', ?_⟩⟩
        exact ⟨hv (wrt s2), results_cell_row rfl _ _ w.heap.size 25 (brow (wrt s2)) (0, 0) _ rfl c4 Tryd.underlying25 rfl HI.out, by rw [HS.out], E3⟩
      case stop2 =>
        rintro D c' pre W hD hp h hK
        exact h.elim
    · gi_wp2_with (refine ⟨trivial, ?_⟩; gi_at_call 34; refine (callsIn_wide.2 HC2.out).mono ?_; rintro e W2 ⟨v2, rfl, O2, hb2⟩)
      obtain ⟨A3, c3, e3⟩ := O2.slc
      rw [← HN.out] at e3
      subst e3
      obtain ⟨ad3, rfl, _⟩ := O2.src (by rw [← HN.out]; omega)
      obtain ⟨gg, eg, hge, _, _⟩ := O2.cell (i := 0) (by rw [← HN.out]; omega)
      have had3 : W.heap.size ≤ ad3.block := by injection eg with eg; rw [eg]; exact hge
      have had4 : ad3.block < W2.heap.size := by
        obtain ⟨ad', e, h, _⟩ := (O2.bn HP8.out) 0 (by rw [← HN.out]; omega)
        injection e with e
        rw [e]; exact h
      clear eg hge
      have hB3 := O2.bn HP8.out
      have hc3 := O2.cap
      rw [← HN.out] at hc3
      refine ⟨trivial, ?_⟩
      refine (callsIn_wide.2 (chunk_any64 (some ad3) _ c3 _)).mono ?_
      rintro e w' ⟨rfl, rfl⟩
      gi_wp2
      have hbig2 : w.heap.size + 1 + 1 + 1 < W2.heap.size := Nat.lt_of_lt_of_le hbig hb2.size
      have r4 := (Blk.new W2 22 #[.slice (some ad3) N c3]).alloc (.cells #[.int .i64 64] 3)
      have r5 := Blk.new (W2.alloc (.cells #[.slice (some ad3) N c3] 22)) 3 #[.int .i64 64]
      rw [World.size_alloc] at r5
      have d0 := ((b0.below hb2 b0.lt).alloc (.cells #[.slice (some ad3) N c3] 22)).alloc (.cells #[.int .i64 64] 3)
      have d1 := ((b1.below hb2 b1.lt).alloc (.cells #[.slice (some ad3) N c3] 22)).alloc (.cells #[.int .i64 64] 3)
      have hb3 := (hb2.alloc hb2.size (.cells #[.slice (some ad3) N c3] 22)).alloc (Nat.le_trans hb2.size (by simp)) (.cells #[.int .i64 64] 3)
      have hz3 : ((W2.alloc (.cells #[.slice (some ad3) N c3] 22)).alloc (.cells #[.int .i64 64] 3)).heap.size = W2.heap.size + 1 + 1 := by simp
      have hB4 : BN ((W2.alloc (.cells #[.slice (some ad3) N c3] 22)).alloc (.cells #[.int .i64 64] 3)) W2.heap.size (some ad3) P := hB3.below (((Below.refl W2.heap.size W2).alloc (Nat.le_refl _) _).alloc (by simp) _)
      obtain ⟨V3, hV⟩ : ∃ V3, V3 = (W2.alloc (.cells #[.slice (some ad3) N c3] 22)).alloc (.cells #[.int .i64 64] 3) := ⟨_, rfl⟩
      rw [← hV] at r4 r5 d0 d1 hb3 hz3 hB4 ⊢
      clear hV
      have hK3 : V3.heap[D]? = some (.deferred (some [])) := (hb3.block D hDW).trans hK
      have H1 := h1.trans (hb3.mono h1.size)
      have HZ3 := hid hz3
      have hsz3 : W2.heap.size + 1 < V3.heap.size := by omega
      clear hz3
      refine wpIn_rangeFunc_ownG rfl (by decide) (gf := 55) (lb := #[.pointer (some ⟨W2.heap.size, 0, none⟩), .pointer (some ⟨W2.heap.size + 1, 0, none⟩)]) rfl trivial (enters_of Tryd.func55 (by kernel_rfl) rfl)
        (chunk_stops64 4 (W2.heap.size) (W2.heap.size + 1) (some ad3) ad3 N (N / 64) c3 HN64.out.1 (by omega) hc3.1 hc3.2 (fun _ => rfl) V3 (by omega) hsz3 r4.cell0 r5.cell0) (fun h k => h.trans k) (fun W l o o' hl _ _ _ => Kp2.putObj W o' (by omega) (by omega)) (Below.refl _ _) (fun _ => rfl)
        (fun pre W => NJ w D s1 P (N / 64) pre W ∧ W.heap[ad3.block]? = V3.heap[ad3.block]? ∧ V3.heap.size ≤ W.heap.size) (fun c' pre W => NX c' pre W) (fun s W W' row h hg hr => ⟨NJ_own w D s1 P (N / 64) (by omega) (by omega) s W W' row h.1 hg hr, (hg.block ad3.block (by omega) (fun e => by have := (hr _ e.symm).1; omega)).trans h.2.1, Nat.le_trans h.2.2 hg.size⟩) (fun c' => NX_own c')
        ⟨⟨⟨H1, d0, d1⟩, hK3⟩, rfl, Nat.le_refl _⟩
        (fun x => { tmps := #[.slice (some A2) n c, undef, .pointer (some ⟨w.heap.size, 0, none⟩), .pointer (some ⟨w.heap.size + 1, 0, none⟩), .int .i64 ((m : Nat) : Int), undef, (.slice (some (ad3.add (64 * cl (N / 64) x))) 64 64), .agg #[.int .u32 1779033703, .int .u32 3144134277, .int .u32 1013904242, .int .u32 2773480762, .int .u32 1359893119, .int .u32 2600822924, .int .u32 528734635, .int .u32 1541459225], .slice (some A2) n c, .int .i64 ((n : Nat) : Int), .slice (some A2) n c, .int .i64 ((n : Nat) : Int), .int .i64 (((n : Nat) : Int) % 64), .int .i64 ((m : Nat) : Int), .slice (some A2) n c, .int .i64 ((m : Nat) : Int), .slice (some A2) m c, .func (.func 55) #[] #[.pointer (some ⟨w.heap.size + 1 + 1, 0, none⟩), .pointer (some ⟨w.heap.size + 1 + 1 + 1, 0, none⟩)], undef, undef, undef, undef, .slice (some A2) n c, .int .i64 ((m : Nat) : Int), .slice (some A2) (n - m) (c - m), .slice (some A2) n c, .int .i64 ((n : Nat) : Int), .slice (some ad3) N c3, .func (.func 55) #[] #[.pointer (some ⟨W2.heap.size, 0, none⟩), .pointer (some ⟨W2.heap.size + 1, 0, none⟩)], (.slice (some (ad3.add (64 * cl (N / 64) x))) 64 64), undef, undef, undef, undef, undef], defers := [] }) ?assign2 ?body2 ?done2 ?stop2
      case assign2 =>
        intro l x W K hK
        gi_wp2
        exact hK
      case body2 =>
        rintro lp pre x U ⟨⟨⟨e1, c0, c1⟩, hKU⟩, hsame, hUs⟩ hlen
        have hT := HT.out.below' hw1 e1
        have hBN : BN U U.heap.size (some (ad3.add (64 * cl (N / 64) x))) (ch64 P (cl (N / 64) x)) := by
          have hBU : BN U U.heap.size (some ad3) P := fun i hi => by
            obtain ⟨ad, e, g1, g2, g3⟩ := hB4 i hi
            injection e with e
            subst e
            exact ⟨ad3, rfl, by omega, (World.cell?_of_block (a := ad3.add i) (by rw [block_of_add]; exact hsame)).trans g2, g3⟩
          exact hBU.piece64 _
        have hlc : (ch64 P (cl (N / 64) x)).length = 64 := by
          have := HN64.out.1
          have := cl_lt (q := N / 64) (x := x) hlen
          unfold ch64
          rw [List.length_take, List.length_drop, ← HN.out]
          omega
        obtain ⟨s, hs⟩ : ∃ s, s = foldA s1 P (N / 64) pre := ⟨_, rfl⟩
        have hok : s.ok := by rw [hs]; exact foldA_ok hok1 _ _ _
        rw [← hs] at c1
        have hc := absorbed_any _ 64 _ s U hok hT.k hT.big hlc hBN (Nat.le_refl _) (by decide)
        have HF : Hid (foldA s1 P (N / 64) (pre ++ [x]) = absorb s (ch64 P (cl (N / 64) x))) := (show _ = _ by rw [foldA_snoc, hs])
        generalize absorb s (ch64 P (cl (N / 64) x)) = s2 at hc HF
        clear hBN hlc hs
        have HC := hid hc
        clear hc
        have k0 : U.cell? ⟨w.heap.size + 1, 0, none⟩ = some (.int .u32 ((s.a : Nat) : Int)) := c1.cell 0
        have k1 : U.cell? ⟨w.heap.size + 1, 1, none⟩ = some (.int .u32 ((s.b : Nat) : Int)) := c1.cell 1
        have k2 : U.cell? ⟨w.heap.size + 1, 2, none⟩ = some (.int .u32 ((s.c : Nat) : Int)) := c1.cell 2
        have k3 : U.cell? ⟨w.heap.size + 1, 3, none⟩ = some (.int .u32 ((s.d : Nat) : Int)) := c1.cell 3
        have k4 : U.cell? ⟨w.heap.size + 1, 4, none⟩ = some (.int .u32 ((s.e : Nat) : Int)) := c1.cell 4
        have k5 : U.cell? ⟨w.heap.size + 1, 5, none⟩ = some (.int .u32 ((s.f : Nat) : Int)) := c1.cell 5
        have k6 : U.cell? ⟨w.heap.size + 1, 6, none⟩ = some (.int .u32 ((s.g : Nat) : Int)) := c1.cell 6
        have k7 : U.cell? ⟨w.heap.size + 1, 7, none⟩ = some (.int .u32 ((s.h : Nat) : Int)) := c1.cell 7
        have zb := c1.lt
        gi_wp2_with (refine ⟨trivial, ?_⟩; gi_at_call 33; refine (callsIn_wide.2 HC.out).mono ?_; rintro e U2 ⟨rfl, hb⟩; unfold stV; have cc1 := c1.below hb c1.lt; have k0 : U2.cell? ⟨w.heap.size + 1, 0, none⟩ = some (.int .u32 ((s.a : Nat) : Int)) := cc1.cell 0; have ee0 := cc1.frozen 0; have k1 : U2.cell? ⟨w.heap.size + 1, 1, none⟩ = some (.int .u32 ((s.b : Nat) : Int)) := cc1.cell 1; have ee1 := cc1.frozen 1; have k2 : U2.cell? ⟨w.heap.size + 1, 2, none⟩ = some (.int .u32 ((s.c : Nat) : Int)) := cc1.cell 2; have ee2 := cc1.frozen 2; have k3 : U2.cell? ⟨w.heap.size + 1, 3, none⟩ = some (.int .u32 ((s.d : Nat) : Int)) := cc1.cell 3; have ee3 := cc1.frozen 3; have k4 : U2.cell? ⟨w.heap.size + 1, 4, none⟩ = some (.int .u32 ((s.e : Nat) : Int)) := cc1.cell 4; have ee4 := cc1.frozen 4; have k5 : U2.cell? ⟨w.heap.size + 1, 5, none⟩ = some (.int .u32 ((s.f : Nat) : Int)) := cc1.cell 5; have ee5 := cc1.frozen 5; have k6 : U2.cell? ⟨w.heap.size + 1, 6, none⟩ = some (.int .u32 ((s.g : Nat) : Int)) := cc1.cell 6; have ee6 := cc1.frozen 6; have k7 : U2.cell? ⟨w.heap.size + 1, 7, none⟩ = some (.int .u32 ((s.h : Nat) : Int)) := cc1.cell 7; have ee7 := cc1.frozen 7)
        clear HC
        have hk := kp2_below hb (s := W2.heap.size) (t := W2.heap.size + 1) (by omega) (by omega)
        have hkf := keepsFrom_below hb V3.heap.size
        have c1' : Blk U2 (w.heap.size + 1) 60 (stW s) := c1.below hb c1.lt
        replace c0 := c0.below hb c0.lt
        replace e1 := e1.trans (hb.mono e1.size)
        have hKU2 := (hb.block D (Array.getElem?_eq_some_iff.1 hKU).1).trans hKU
        have hsame2 := (hb.block ad3.block (by omega)).trans hsame
        change KeepsFrom V3.heap.size U (put8 U2 (w.heap.size + 1) s2) ∧ Kp2 (W2.heap.size) (W2.heap.size + 1) U (put8 U2 (w.heap.size + 1) s2) ∧ NJ w D s1 P (N / 64) (pre ++ [x]) (put8 U2 (w.heap.size + 1) s2) ∧ (put8 U2 (w.heap.size + 1) s2).heap[ad3.block]? = V3.heap[ad3.block]? ∧ V3.heap.size ≤ (put8 U2 (w.heap.size + 1) s2).heap.size
        exact ⟨hkf.trans (put8_keeps.from _), hk.trans (kp2_put8 (by omega) (by omega)), ⟨⟨put8_below e1 (by omega), put8_far c0 (by omega), by rw [HF.out]; exact put8_blk c1'⟩, (put8_other (by omega)).trans hKU2⟩, (put8_other (by omega)).trans hsame2, Nat.le_trans hUs (Nat.le_trans hb.size put8_keeps.size)⟩
      case done2 =>
        rintro D2 ys U hD2 rfl ⟨⟨⟨e1, c0, c1⟩, hKU⟩, _, hUs⟩ hKD
        rw [foldA_range _ _ _ _ (Nat.le_refl _)] at c1
        obtain ⟨s2, hs2⟩ : ∃ s, s = absAll s1 P (N / 64) := ⟨_, rfl⟩
        rw [← hs2] at c1
        have HS2 := hid hs2
        clear hs2
        have hc := written_any s2 U
        have HC := hid hc
        clear hc
        have k0 : U.cell? ⟨w.heap.size + 1, 0, none⟩ = some (.int .u32 ((s2.a : Nat) : Int)) := c1.cell 0
        have k1 : U.cell? ⟨w.heap.size + 1, 1, none⟩ = some (.int .u32 ((s2.b : Nat) : Int)) := c1.cell 1
        have k2 : U.cell? ⟨w.heap.size + 1, 2, none⟩ = some (.int .u32 ((s2.c : Nat) : Int)) := c1.cell 2
        have k3 : U.cell? ⟨w.heap.size + 1, 3, none⟩ = some (.int .u32 ((s2.d : Nat) : Int)) := c1.cell 3
        have k4 : U.cell? ⟨w.heap.size + 1, 4, none⟩ = some (.int .u32 ((s2.e : Nat) : Int)) := c1.cell 4
        have k5 : U.cell? ⟨w.heap.size + 1, 5, none⟩ = some (.int .u32 ((s2.f : Nat) : Int)) := c1.cell 5
        have k6 : U.cell? ⟨w.heap.size + 1, 6, none⟩ = some (.int .u32 ((s2.g : Nat) : Int)) := c1.cell 6
        have k7 : U.cell? ⟨w.heap.size + 1, 7, none⟩ = some (.int .u32 ((s2.h : Nat) : Int)) := c1.cell 7
        have hi32 : (Tryd.prog.info? 25).map (·.size) = some (brow (wrt s2)).size := by rw [brow_size, wrt_len]; kernel_rfl
        have ho32 : b32.size = (brow (wrt s2)).size := by rw [brow_size, wrt_len]; rfl
        have HI := hid hi32
        have HO := hid ho32
        have HC0 := hid c0
        clear hi32 ho32
        gi_wp2_with (first | (refine ⟨trivial, ?_⟩; gi_at_call 35; refine (callsIn_wide.2 HC.out).mono ?_; rintro e U2 ⟨rfl, hb⟩) | (refine wpListIn_store_row rfl 25 (.tmp 2) (.tmp 34) rfl w.heap.size (brow (wrt s2)) rfl rfl 25 b32 (HC0.out.below hb HC0.out.lt) HI.out HO.out (brow_one _) ?_))
        have HK2 : (U2.setRow w.heap.size (brow (wrt s2))).heap[D2]? = some (.deferred (some [])) := (setRow_other U2 w.heap.size D2 _ (by omega)).trans ((hb.block D2 (Array.getElem?_eq_some_iff.1 hKD).1).trans hKD)
        have HK1 : (U2.setRow w.heap.size (brow (wrt s2))).heap[D]? = some (.deferred (some [])) := (setRow_other U2 w.heap.size D _ (by omega)).trans ((hb.block D (Array.getElem?_eq_some_iff.1 hKU).1).trans hKU)
        have c2 := (c0.below hb c0.lt).setRow_ (brow (wrt s2))
        have E1 := below_setRow_ (e1.trans (hb.mono e1.size)) (Nat.le_refl _) (brow (wrt s2))
        have HS : Hid (sha l = wrt s2) := (show sha l = wrt s2 by rw [sha_parts l HL.out HQ.out hm1 (HN.out.trans (by rw [HP.out])), ← HS1.out, ← HP.out, ← HS2.out])
        generalize U2.setRow w.heap.size (brow (wrt s2)) = U3 at HK1 HK2 c2 E1 ⊢
        have G2 := grownBy_putObj' U3 D2 (.deferred none)
        have c3' := c2.cells G2 (fun r e => by cases e; exact ⟨_, HK2, rfl⟩)
        have E2 := E1.grown G2 E1.size (fun r e => by cases e; omega)
        have HK1' : (U3.putObj D2 (.deferred none)).heap[D]? = some (.deferred (some [])) := (World.putObj_heap_other (by omega)).trans HK1
        generalize hU4 : U3.putObj D2 (.deferred none) = U4 at c3' E2 HK1'
        have G1 := grownBy_putObj' U4 D (.deferred none)
        have c4 := c3'.cells G1 (fun r e => by cases e; exact ⟨_, HK1', rfl⟩)
        have E3 := E2.grown G1 E2.size (fun r e => by cases e; omega)
        refine ⟨by simp, .inl ⟨_, _, rfl, run_takeDeferred HK2, ?_⟩⟩
        rw [hU4]
        refine ⟨by simp, .inl ⟨_, _, rfl, run_takeDeferred HK1', ?_⟩⟩
        exact ⟨hv (wrt s2), results_cell_row rfl _ _ w.heap.size 25 (brow (wrt s2)) (0, 0) _ rfl c4 Tryd.underlying25 rfl HI.out, by rw [HS.out], E3⟩
      case stop2 =>
        rintro D c' pre W hD hp h hK
        exact h.elim
  case stop =>
    rintro D c' pre W hD hp h hK
    exact h.elim
end Go.Proofs.YtenmdfhdiepfcaaDoor
