/- digest.schedule. -/
import Derived.Test.YtenmdfhdiepfcaaDoorL1
import Derived.StillTailTactics
set_option linter.unusedVariables false
set_option linter.unusedSimpArgs false
namespace Go.Proofs.YtenmdfhdiepfcaaDoor
open Go Go.RowKit
theorem info82 : (Tryd.prog.info? 82).map (fun i => (i.zero, i.size)) = some (some (.agg (Array.replicate 64 (.int .u32 0))), 64) := by kernel_rfl
def w32 (x : Nat) : Value := .int .u32 ((x : Nat) : Int)
def row (l : List Nat) : Array Value := (l.map w32).toArray
theorem row_zero (n : Nat) : Array.replicate n (Value.int .u32 0) = row (List.replicate n 0) := by
  apply Array.ext'; simp [row, w32]
def z64 : Array Value := row (List.replicate 64 0)
theorem row_size (l : List Nat) : (row l).size = l.length := by simp [row]
theorem row_set (l : List Nat) (i x : Nat) : (row l).setIfInBounds i (.int .u32 ((x : Nat) : Int)) = row (l.set i x) := by
  simp [row, w32, List.map_set]
theorem row_at {l : List Nat} {i : Nat} (h : i < l.length) : (row l)[i]? = some (.int .u32 ((l.getD i 0 : Nat) : Int)) := by
  simp [row, w32, h]
def wz (b : List Nat) (k : Nat) : List Nat := wds b k ++ List.replicate (64 - k) 0
theorem wds_succ (b : List Nat) (k : Nat) : wds b (k + 1) = wds b k ++ [rd4 (b.getD (4 * k) 0) (b.getD (4 * k + 1) 0) (b.getD (4 * k + 2) 0) (b.getD (4 * k + 3) 0)] := by
  unfold wds wdsF; rw [List.range_succ, List.map_append]; rfl
theorem wds_len (b : List Nat) (k : Nat) : (wds b k).length = k := by simp [wds, wdsF]
theorem wz_set (b : List Nat) (k : Nat) (h : k < 64) : (wz b k).set k (rd4 (b.getD (4 * k) 0) (b.getD (4 * k + 1) 0) (b.getD (4 * k + 2) 0) (b.getD (4 * k + 3) 0)) = wz b (k + 1) := by
  unfold wz
  rw [List.set_append_right _ _ (by rw [wds_len]; exact Nat.le_refl _), wds_len, Nat.sub_self, show 64 - k = (64 - (k + 1)) + 1 from by omega, List.replicate_succ, List.set_cons_zero, wds_succ]
  simp
theorem row_one (l : List Nat) : (row l).all (·.oneCell') = true := by
  rw [Array.all_eq_true]
  intro i h
  simp [row, w32, Value.oneCell']
theorem Blk.reads {w : World} {g : Nat} {t : TypeId} {l : List Nat} (h : Blk w g t (row l)) {i : Nat} (hi : i < l.length) : w.cell? ⟨g, i, none⟩ = some (.int .u32 ((l.getD i 0 : Nat) : Int)) := (h.cell i).trans (row_at hi)
theorem Blk.puts {w : World} {g : Nat} {t : TypeId} {l l' : List Nat} (h : Blk w g t (row l)) {i x : Nat} (e : l.set i x = l') : Blk (w.setCell ⟨g, i, none⟩ (.int .u32 ((x : Nat) : Int))) g t (row l') := by
  rw [← e, ← row_set]; exact h.set_ i _
theorem BN.bytes {w : World} {B : Nat} {A : Addr} {l : List Nat} (h : BN w B (some A) l) (i : Nat) (hi : i < l.length) : w.cell? (A.add i) = some (byt (l.getD i 0)) ∧ l.getD i 0 < 256 := by
  obtain ⟨ad, e, h1, h2, h3⟩ := h i hi
  injection e with e
  subst e
  rw [List.getD_eq_getElem?_getD, List.getElem?_eq_getElem hi]
  exact ⟨h2, by simp; omega⟩
theorem wz_len (b : List Nat) (k : Nat) (h : k ≤ 64 := by omega) : (wz b k).length = 64 := by unfold wz; rw [List.length_append, wds_len, List.length_replicate]; omega
def wx (b : List Nat) (k : Nat) : List Nat := sched (wds b 16) k ++ List.replicate (48 - k) 0
theorem sched_len (b : List Nat) (k : Nat) : (sched b k).length = b.length + k := by
  induction k with
  | zero => rfl
  | succ k ih => unfold sched; rw [List.length_append, ih]; rfl
theorem wx_len (b : List Nat) (k : Nat) (h : k ≤ 48) : (wx b k).length = 64 := by unfold wx; rw [List.length_append, sched_len, wds_len, List.length_replicate]; omega
theorem wx_at (b : List Nat) (k i : Nat) (h : i < k + 16) : (wx b k).getD i 0 = (sched (wds b 16) k).getD i 0 := by
  unfold wx
  rw [List.getD_eq_getElem?_getD, List.getElem?_append_left (by rw [sched_len, wds_len]; omega), ← List.getD_eq_getElem?_getD]
def wn (b : List Nat) (k : Nat) : Nat := wnext ((wx b k).getD k 0) ((wx b k).getD (k + 1) 0) ((wx b k).getD (k + 9) 0) ((wx b k).getD (k + 14) 0)
theorem wx_set (b : List Nat) (k : Nat) (h : k < 48) : (wx b k).set (k + 16) (wn b k) = wx b (k + 1) := by
  unfold wn
  rw [wx_at b k k (by omega), wx_at b k (k + 1) (by omega), wx_at b k (k + 9) (by omega), wx_at b k (k + 14) (by omega)]
  unfold wx
  rw [List.set_append_right _ _ (by rw [sched_len, wds_len]; omega), sched_len, wds_len, show k + 16 - (16 + k) = 0 from by omega, show 48 - k = (48 - (k + 1)) + 1 from by omega, List.replicate_succ, List.set_cons_zero, sched]
  simp
theorem wx_all (b : List Nat) : wx b 48 = sched (wds b 16) 48 := by unfold wx; simp
theorem s0_lt (x : Nat) (hx : x < 4294967296) : s0 x < 4294967296 := Nat.xor_lt_two_pow (n := 32) (Nat.xor_lt_two_pow (n := 32) (rotr_lt _ _ hx) (rotr_lt _ _ hx)) (by omega)
theorem s1_lt (x : Nat) (hx : x < 4294967296) : s1 x < 4294967296 := Nat.xor_lt_two_pow (n := 32) (Nat.xor_lt_two_pow (n := 32) (rotr_lt _ _ hx) (rotr_lt _ _ hx)) (by omega)
theorem s0_val (x : Nat) (hx : x < 4294967296) : bits BinOp.xor IntKind.u32 (bits BinOp.xor IntKind.u32 ((rotr x 7 : Nat) : Int) ((rotr x 18 : Nat) : Int)) (((x : Nat) : Int) / 8) = ((s0 x : Nat) : Int) := by
  rw [show ((x : Nat) : Int) / 8 = ((x / 8 : Nat) : Int) by simp, u32_xor_nat _ _ (rotr_lt _ _ hx) (rotr_lt _ _ hx), u32_xor_nat _ _ (Nat.xor_lt_two_pow (n := 32) (rotr_lt _ _ hx) (rotr_lt _ _ hx)) (by omega)]
  rfl
theorem s1_val (x : Nat) (hx : x < 4294967296) : bits BinOp.xor IntKind.u32 (bits BinOp.xor IntKind.u32 ((rotr x 17 : Nat) : Int) ((rotr x 19 : Nat) : Int)) (((x : Nat) : Int) / 1024) = ((s1 x : Nat) : Int) := by
  rw [show ((x : Nat) : Int) / 1024 = ((x / 1024 : Nat) : Int) by simp, u32_xor_nat _ _ (rotr_lt _ _ hx) (rotr_lt _ _ hx), u32_xor_nat _ _ (Nat.xor_lt_two_pow (n := 32) (rotr_lt _ _ hx) (rotr_lt _ _ hx)) (by omega)]
  rfl
theorem wnext_lt (a b c d : Nat) : wnext a b c d < 4294967296 := Nat.mod_lt _ (by omega)
theorem all_lt {l : List Nat} (h : ∀ x ∈ l, x < 4294967296) (i : Nat) : l.getD i 0 < 4294967296 := by
  rw [List.getD_eq_getElem?_getD]
  cases e : l[i]? with
  | none => simp
  | some x => exact h x (List.mem_of_getElem? e)
theorem sched_all {b : List Nat} (h : ∀ x ∈ b, x < 4294967296) : ∀ k, ∀ x ∈ sched b k, x < 4294967296 := by
  intro k
  induction k with
  | zero => exact h
  | succ k ih =>
    unfold sched
    intro x hx
    rcases List.mem_append.1 hx with hx | hx
    · exact ih x hx
    · rw [List.mem_singleton] at hx; rw [hx]; exact wnext_lt _ _ _ _
theorem wds_all {b : List Nat} (h : ∀ i, b.getD i 0 < 256) (k : Nat) : ∀ x ∈ wds b k, x < 4294967296 := by
  intro x hx
  simp only [wds, wdsF, List.mem_map, List.mem_range] at hx
  obtain ⟨i, _, rfl⟩ := hx
  have := h (4 * i)
  have := h (4 * i + 1)
  have := h (4 * i + 2)
  have := h (4 * i + 3)
  unfold rd4
  omega
theorem wx_all_lt {b : List Nat} (h : ∀ i, b.getD i 0 < 256) (k i : Nat) : (wx b k).getD i 0 < 4294967296 := by
  refine all_lt (fun x hx => ?_) i
  unfold wx at hx
  rcases List.mem_append.1 hx with hx | hx
  · exact sched_all (wds_all h 16) k x hx
  · rw [(List.mem_replicate.1 hx).2]; omega
theorem BN.all {w : World} {B : Nat} {A : Option Addr} {l : List Nat} (h : BN w B A l) (i : Nat) : l.getD i 0 < 256 := by
  rw [List.getD_eq_getElem?_getD]
  rcases Nat.lt_or_ge i l.length with hi | hi
  · obtain ⟨_, _, _, _, h3⟩ := h i hi
    rw [List.getElem?_eq_getElem hi]
    simp; omega
  · rw [List.getElem?_eq_none hi]; simp
theorem wrap_nat {n : Nat} (h : n ≤ 9223372036854775807) : IntKind.i64.wrap ((n : Nat) : Int) = ((n : Nat) : Int) := by rw [IntKind.wrap_i64]; omega
theorem wrapU_nat (a b : Nat) : IntKind.u32.wrap (((a : Nat) : Int) + ((b : Nat) : Int)) = (((a + b) % 4294967296 : Nat) : Int) := by rw [IntKind.wrap_u32]; omega
theorem Blk.loads {P : Program} {w : World} {g : Nat} {t : TypeId} {cs : Array Value} (h : Blk w g t cs) {n : Nat} (hn : cs.size = n) :
    (loadCellsFrom ⟨g, 0, none⟩ 0 n #[]).run P w = .ok cs w := by
  subst hn
  have := run_loadCells_list (P := P) w ⟨g, 0, none⟩ cs.toList (fun j v hv => by
    rw [add_at, Nat.zero_add, h.cell j]
    simpa using hv)
  simpa [loadCells] using this
theorem Blk.stores {P : Program} {w : World} {g : Nat} {t : TypeId} {cs cs' : Array Value} (h : Blk w g t cs) (hi : (P.info? t).map (·.size) = some cs'.size) (ho : cs.size = cs'.size) (h1 : cs'.all (·.oneCell') = true) :
    (storeCells ⟨g, 0, none⟩ cs'.toList 0).run P w = .ok () (w.setRow g cs') := by
  have := run_storeVar_row (P := P) w g t t cs cs' h hi ho h1
  cases hq : P.info? t with
  | none => simp [hq] at hi
  | some i =>
    have hs : cs'.size = i.size := by simp [hq] at hi; omega
    simpa [storeVar, sizeOf, typeInfo, hq, Value.cells, hs] using this
theorem Blk.setRow_ {w : World} {g : Nat} {t : TypeId} {cs : Array Value} (h : Blk w g t cs) (cs' : Array Value) : Blk (w.setRow g cs') g t cs' := by
  unfold Blk at h ⊢
  simp [World.setRow, Array.getElem?_modify, h]
theorem Blk.setRow_far {w : World} {g g' : Nat} {t : TypeId} {cs : Array Value} (h : Blk w g t cs) (hne : g ≠ g') (cs' : Array Value) : Blk (w.setRow g' cs') g t cs := by
  unfold Blk at h ⊢
  simp only [World.setRow, Array.getElem?_modify]
  rw [if_neg (fun e => hne e.symm)]
  exact h
theorem below_setRow_ {B : Nat} {a w : World} (h : Below B a w) {g : Nat} (hg : B ≤ g) (cs' : Array Value) : Below B a (w.setRow g cs') :=
  ⟨h.os, h.tape, h.output, by simpa [World.setRow] using h.size, fun j hj => by
    rw [← h.block j hj]
    simp only [World.setRow, Array.getElem?_modify]
    rw [if_neg (by omega)]⟩
set_option maxRecDepth 100000 in
set_option maxHeartbeats 4000000 in
theorem schedule_any (A : Addr) (m : Nat) (l : List Nat) (w : World) (hl : l.length = 64) (hA : BN w w.heap.size (some A) l) (hm : 64 ≤ m) (hm2 : m ≤ 9223372036854775807) :
    Calls Tryd.prog 56 #[.slice (some A) 64 m] w (fun e w' => e = .returned (.agg (row (sched (wds l 16) 48))) ∧ Below w.heap.size w w') := by
  have hz := (zero_of_info info82).1
  rw [row_zero] at hz
  replace hz : ∀ w, (zeroValue 82).run Tryd.prog w = .ok (.agg z64) w := hz
  have HL := hid hl
  have HA := hid hA
  have HD := hid hA.all
  clear hl hA
  go_enter Tryd.func56, Tryd.ntmps56
  go_wp2_with fail
  have b2 := (Blk.new w 82 z64).alloc (.cells z64 82)
  have b3 := Blk.new (w.alloc (.cells z64 82)) 82 z64
  have WW := ((Below.refl w.heap.size w).alloc (Nat.le_refl _) (.cells z64 82)).alloc (by simp) (.cells z64 82)
  rw [World.size_alloc] at b3
  generalize hV : (w.alloc (.cells z64 82)).alloc (.cells z64 82) = V0 at b2 b3 WW ⊢
  clear hV
  go_loopw [10] (fun i wr => ∃ k : Nat, k ≤ 16 ∧ i = .int .i64 ((k : Nat) : Int) ∧ Below w.heap.size w wr ∧ Blk wr w.heap.size 82 z64 ∧ Blk wr (w.heap.size + 1) 82 (row (wz l k))) (fun i wr => 16 - (intOf i).toNat)
  case atStart => exact ⟨0, by omega, rfl, WW, b2, (show Blk V0 (w.heap.size + 1) 82 (row (wz l 0)) from b3)⟩
  case round =>
    clear WW b2 b3
    obtain ⟨k, hk, rfl, WW, b2, b3⟩ := hrel
    by_cases hlt : k < 16
    · go_wp2_with fail
      obtain ⟨c0, d0⟩ := (HA.out.below WW).bytes (4 * k) (by rw [HL.out]; omega)
      obtain ⟨c1, d1⟩ := (HA.out.below WW).bytes (4 * k + 1) (by rw [HL.out]; omega)
      obtain ⟨c2, d2⟩ := (HA.out.below WW).bytes (4 * k + 2) (by rw [HL.out]; omega)
      obtain ⟨c3, d3⟩ := (HA.out.below WW).bytes (4 * k + 3) (by rw [HL.out]; omega)
      have hc := read_any (A.add (4 * k)) _ _ _ _ (64 - 4 * k) (m - 4 * k) (by omega) d0 d1 d2 d3 wr (by omega) c0 (by rw [add_of_add]; exact c1) (by rw [add_of_add]; exact c2) (by rw [add_of_add]; exact c3)
      clear c0 c1 c2 c3 d0 d1 d2 d3
      refine hc.mono ?_
      clear hc
      rintro e w' ⟨rfl, nd, rfl⟩
      replace WW := below_drewN WW nd
      replace b2 : Blk (wr.drewN nd) w.heap.size 82 z64 := b2
      replace b3 : Blk (wr.drewN nd) (w.heap.size + 1) 82 (row (wz l k)) := b3
      generalize wr.drewN nd = V1 at WW b2 b3 ⊢
      have f3 := b3.frozen k
      have k3 := b3.reads (i := k) (by rw [wz_len l k (by omega)]; omega)
      go_wp2_with fail
      go_roundw
      case rel => exact ⟨k + 1, by omega, rfl, WW.setCell (by simp) _, b2.far (by simp) _, b3.puts (wz_set l k (by omega))⟩
      case measure => simp [intOf]; omega
    · go_wp2_with fail
      rw [show k = 16 from by omega] at b3
      replace b3 : Blk wr (w.heap.size + 1) 82 (row (wx l 0)) := b3
      rename World => wo
      generalize Value.int .i64 ((k : Nat) : Int) = y10
      generalize Value.bool (decide (((k : Nat) : Int) < 16)) = y11
      clear hlt hk
      rename_i KK hKK
      have HK := hid hKK
      clear hKK
      go_loopw [5] (fun i wr => ∃ k : Nat, k ≤ 48 ∧ i = .int .i64 ((k : Nat) + 16 : Int) ∧ Below w.heap.size w wr ∧ Blk wr w.heap.size 82 z64 ∧ Blk wr (w.heap.size + 1) 82 (row (wx l k))) (fun i wr => 64 - (intOf i).toNat)
      case atStart => exact ⟨0, by omega, rfl, WW, b2, b3⟩
      case round =>
        clear WW b2 b3
        obtain ⟨k, hk, rfl, WW, b2, b3⟩ := hrel
        by_cases hlt : k < 48
        · have f3 := b3.frozen (k + 16)
          have c0 := b3.reads (i := k) (by rw [wx_len l k (by omega)]; omega)
          have c1 := b3.reads (i := k + 1) (by rw [wx_len l k (by omega)]; omega)
          have c9 := b3.reads (i := k + 9) (by rw [wx_len l k (by omega)]; omega)
          have c14 := b3.reads (i := k + 14) (by rw [wx_len l k (by omega)]; omega)
          have c16 := b3.reads (i := k + 16) (by rw [wx_len l k (by omega)]; omega)
          have HW : Hid (wn l k = wnext ((wx l k).getD k 0) ((wx l k).getD (k + 1) 0) ((wx l k).getD (k + 9) 0) ((wx l k).getD (k + 14) 0)) := rfl
          have l1 := wx_all_lt HD.out k (k + 1)
          have l14 := wx_all_lt HD.out k (k + 14)
          generalize (wx l k).getD k 0 = x0 at c0 HW
          generalize (wx l k).getD (k + 1) 0 = x1 at c1 HW l1
          generalize (wx l k).getD (k + 9) 0 = x9 at c9 HW
          generalize (wx l k).getD (k + 14) 0 = x14 at c14 HW l14
          generalize (wx l k).getD (k + 16) 0 = x16 at c16
          have j1 : ((k : Nat) : Int) + 16 - 15 = ((k + 1 : Nat) : Int) := by omega
          go_wp2_with fail
          have e0 := s0_val x1 l1
          have e1 := s1_val x14 l14
          go_quiet (fail)
          go_wp2_with fail
          generalize hV : wr.drewN nq = V1
          replace WW : Below w.heap.size w V1 := by rw [← hV]; exact below_drewN WW nq
          replace b2 : Blk V1 w.heap.size 82 z64 := by rw [← hV]; exact b2
          replace b3 : Blk V1 (w.heap.size + 1) 82 (row (wx l k)) := by rw [← hV]; exact b3
          replace f3 : V1.frozen? ⟨w.heap.size + 1, k + 16, none⟩ = false := by rw [← hV]; exact f3
          replace c0 : V1.cell? ⟨w.heap.size + 1, k, none⟩ = some (.int .u32 ((x0 : Nat) : Int)) := by rw [← hV]; exact c0
          replace c9 : V1.cell? ⟨w.heap.size + 1, k + 9, none⟩ = some (.int .u32 ((x9 : Nat) : Int)) := by rw [← hV]; exact c9
          replace c16 : V1.cell? ⟨w.heap.size + 1, k + 16, none⟩ = some (.int .u32 ((x16 : Nat) : Int)) := by rw [← hV]; exact c16
          clear hV c1 c14
          refine (right_7 x1 l1 _).mono ?_
          rintro e w' ⟨rfl, rfl⟩
          go_wp2_with fail
          refine (right_18 x1 l1 _).mono ?_
          rintro e w' ⟨rfl, rfl⟩
          go_wp2_with fail
          refine (right_17 x14 l14 _).mono ?_
          rintro e w' ⟨rfl, rfl⟩
          go_wp2_with fail
          refine (right_19 x14 l14 _).mono ?_
          rintro e w' ⟨rfl, rfl⟩
          go_wp2_with fail
          have u0 : IntKind.i64.wrap ((k : Nat) : Int) = ((k : Nat) : Int) := wrap_nat (by omega)
          have u9 : IntKind.i64.wrap (((k : Nat) : Int) + 16 - 7) = ((k : Nat) : Int) + 9 := by rw [show ((k : Nat) : Int) + 16 - 7 = ((k + 9 : Nat) : Int) by omega, wrap_nat (by omega)]; omega
          have t0 : ((k : Nat) : Int) < 64 := by omega
          have t9 : ((k : Nat) : Int) + 9 < 64 := by omega
          have n9 : 0 ≤ ((k : Nat) : Int) + 9 := by omega
          have z9 : (((k : Nat) : Int) + 9).toNat = k + 9 := by omega
          have t16 : ((k : Nat) : Int) + 16 < 64 := by omega
          have n16 : 0 ≤ ((k : Nat) : Int) + 16 := by omega
          have z16 : (((k : Nat) : Int) + 16).toNat = k + 16 := by omega
          have HW2 : Hid (wn l k = (((x0 + s0 x1) % 4294967296 + x9) % 4294967296 + s1 x14) % 4294967296) := HW.out
          obtain ⟨q1, hq1⟩ : ∃ q, q = (x0 + s0 x1) % 4294967296 := ⟨_, rfl⟩
          rw [← hq1] at HW2
          have r1 : IntKind.u32.wrap (((x0 : Nat) : Int) + ((s0 x1 : Nat) : Int)) = ((q1 : Nat) : Int) := by rw [hq1]; exact wrapU_nat _ _
          obtain ⟨q2, hq2⟩ : ∃ q, q = (q1 + x9) % 4294967296 := ⟨_, rfl⟩
          rw [← hq2] at HW2
          have r2 : IntKind.u32.wrap (((q1 : Nat) : Int) + ((x9 : Nat) : Int)) = ((q2 : Nat) : Int) := by rw [hq2]; exact wrapU_nat _ _
          obtain ⟨q3, hq3⟩ : ∃ q, q = (q2 + s1 x14) % 4294967296 := ⟨_, rfl⟩
          rw [← hq3] at HW2
          have r3 : IntKind.u32.wrap (((q2 : Nat) : Int) + ((s1 x14 : Nat) : Int)) = ((q3 : Nat) : Int) := by rw [hq3]; exact wrapU_nat _ _
          clear hq1 hq2 hq3
          go_still_tail 15, (by kernel_rfl)
          change wpList _ _ _ _ _ w'.drew
          generalize hV : w'.drew = V2
          replace WW : Below w.heap.size w V2 := by rw [← hV]; exact WW.drew
          replace b2 : Blk V2 w.heap.size 82 z64 := by rw [← hV]; exact b2
          replace b3 : Blk V2 (w.heap.size + 1) 82 (row (wx l k)) := by rw [← hV]; exact b3
          replace f3 : V2.frozen? ⟨w.heap.size + 1, k + 16, none⟩ = false := by rw [← hV]; exact f3
          replace c16 : V2.cell? ⟨w.heap.size + 1, k + 16, none⟩ = some (.int .u32 ((x16 : Nat) : Int)) := by rw [← hV]; exact c16
          clear hV c0 c9
          go_wp2_with fail
          go_roundw
          case rel => exact ⟨k + 1, by omega, by congr 1 <;> omega, WW.setCell (by simp) _, b2.far (by simp) _, b3.puts (by rw [← HW2.out]; exact wx_set l k (by omega))⟩
          case measure => simp [intOf] <;> omega
        · obtain rfl : k = 48 := by omega
          go_wp2_with fail
          refine HK.out _ _ ?_
          clear HK
          refine wp_seq (wp_region_lit ?_)
          refine wpList_load_row rfl 82 (.tmp 3) rfl _ rfl 82 _ (0, 0) _ b3 Tryd.underlying82 rfl (by rw [row_size, wx_len _ _ (Nat.le_refl _)]; kernel_rfl) ?_
          refine wpList_store_row rfl 82 (.tmp 2) (.tmp 64) rfl w.heap.size (row (wx l 48)) rfl rfl 82 _ b2 (by rw [row_size, wx_len _ _ (Nat.le_refl _)]; kernel_rfl) (by rw [row_size, wx_len _ _ (Nat.le_refl _)]; rfl) (row_one _) ?_
          refine wpList_nil ?_
          go_wp2_with fail
          exact bodyPost_ret (v := .agg (row (wx l 48))) (results_cell_row rfl _ _ w.heap.size 82 _ (0, 0) _ rfl (b2.setRow_ _) Tryd.underlying82 rfl (by rw [row_size, wx_len _ _ (Nat.le_refl _)]; kernel_rfl)) rfl ⟨by rw [wx_all], below_setRow_ WW (Nat.le_refl _) _⟩
end Go.Proofs.YtenmdfhdiepfcaaDoor
