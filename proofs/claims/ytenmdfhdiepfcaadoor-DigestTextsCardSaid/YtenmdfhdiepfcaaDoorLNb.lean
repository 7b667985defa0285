/- digest.Number. -/
import Derived.Test.YtenmdfhdiepfcaaDoorL12
import Derived.Test.YtenmdfhdiepfcaaDoorRin
import Derived.Test.YtenmdfhdiepfcaaDoorFns
set_option linter.unusedVariables false
set_option linter.unusedSimpArgs false
namespace Go.Proofs.YtenmdfhdiepfcaaDoor
open Go Go.RowKit
attribute [local go_sem] Oper.semAt_some
def oq21_8_0 : Oper := { dst := some 33, op := Op.move (Operand.tmp 9), type := 22, pos := "digest.go:60", after := #[], guard := none }
def oq21_8_1 : Oper := { dst := some 34, op := Op.call { callee := Callee.value (Operand.func 46), args := #[Operand.tmp 33], argTypes := #[22] }, type := 51, pos := "digest.go:60", after := #[{ on := 0, ground := Ground.data }], guard := none }
def oq21_8_2 : Oper := { dst := some 35, op := Op.convert 51 3 (Operand.tmp 34), type := 3, pos := "digest.go:60", after := #[{ on := 1, ground := Ground.data }], guard := none }
def oq21_8_3 : Oper := { dst := some 36, op := Op.load 3 (Operand.tmp 3), type := 3, pos := "digest.go:60", after := #[], guard := none }
def oq21_8_4 : Oper := { dst := some 37, op := Op.call { callee := Callee.value (Operand.func 44), args := #[Operand.tmp 35, Operand.tmp 36], argTypes := #[3, 3] }, type := 41, pos := "digest.go:60", after := #[{ on := 2, ground := Ground.data }, { on := 3, ground := Ground.data }, { on := 1, ground := Ground.chain }], guard := none }
def oq21_8_5 : Oper := { dst := some 32, op := Op.move (Operand.tmp 37), type := 41, pos := "digest.go:60", after := #[{ on := 4, ground := Ground.data }], guard := none }
def oq21_8_6 : Oper := { dst := some 38, op := Op.extract (Operand.tmp 32) 0, type := 3, pos := "digest.go:60", after := #[{ on := 5, ground := Ground.data }], guard := none }
def oq21_8_7 : Oper := { dst := some 39, op := Op.extract (Operand.tmp 32) 1, type := 28, pos := "digest.go:60", after := #[{ on := 5, ground := Ground.data }, { on := 8, ground := Ground.gcOnly Departure.lateStores }], guard := none }
def oq21_8_8 : Oper := { dst := some 12, op := Op.assign (Operand.tmp 38), type := 3, pos := "digest.go:60", after := #[{ on := 6, ground := Ground.data }, { on := 4, ground := Ground.chain }, { on := 0, ground := Ground.phase }, { on := 1, ground := Ground.phase }, { on := 2, ground := Ground.phase }, { on := 3, ground := Ground.phase }, { on := 4, ground := Ground.phase }, { on := 5, ground := Ground.phase }, { on := 6, ground := Ground.phase }, { on := 7, ground := Ground.textOnly Departure.lateStores }], guard := none }
def oq21_8_9 : Oper := { dst := some 13, op := Op.assign (Operand.tmp 39), type := 28, pos := "digest.go:60", after := #[{ on := 7, ground := Ground.data }, { on := 8, ground := Ground.chain }, { on := 0, ground := Ground.phase }, { on := 1, ground := Ground.phase }, { on := 2, ground := Ground.phase }, { on := 3, ground := Ground.phase }, { on := 4, ground := Ground.phase }, { on := 5, ground := Ground.phase }, { on := 6, ground := Ground.phase }, { on := 7, ground := Ground.phase }, { on := 8, ground := Ground.phase }], guard := none }
/-- What the pieces that have come are, as a number. -/
def accF (l : List Nat) (q v x : Nat) : Nat := v * 4294967296 + rd4 ((ch4 l (cl q x)).getD 0 0) ((ch4 l (cl q x)).getD 1 0) ((ch4 l (cl q x)).getD 2 0) ((ch4 l (cl q x)).getD 3 0)
def accN (l : List Nat) (q : Nat) (pre : List Nat) : Nat := pre.foldl (accF l q) 0
theorem accN_snoc (l : List Nat) (q : Nat) (pre : List Nat) (x : Nat) : accN l q (pre ++ [x]) = accF l q (accN l q pre) x := by unfold accN; rw [List.foldl_append, List.foldl_cons, List.foldl_nil]
theorem vb_from (b : Nat) (ys : List Nat) : ∀ v, ys.foldl (fun v d => v * b + d) v = v * b ^ ys.length + vb b ys := by
  induction ys with
  | nil => intro v; simp [vb]
  | cons y ys ih =>
    intro v
    have h1 := ih (v * b + y)
    have h2 := ih (0 * b + y)
    simp only [vb, List.foldl_cons, List.length_cons, Nat.pow_succ] at h1 h2 ⊢
    rw [h1, h2]
    grind
theorem vb_append (b : Nat) (xs ys : List Nat) : vb b (xs ++ ys) = vb b xs * b ^ ys.length + vb b ys := by
  have h := vb_from b ys (vb b xs)
  rw [← h]
  simp [vb]
theorem vb_four (a b c d : Nat) : vb 256 [a, b, c, d] = rd4 a b c d := by
  simp only [vb, List.foldl_cons, List.foldl_nil]
  unfold rd4
  omega
theorem vb_piece {p : List Nat} (h : p.length = 4) : vb 256 p = rd4 (p.getD 0 0) (p.getD 1 0) (p.getD 2 0) (p.getD 3 0) := by
  match p, h with
  | [a, b, c, d], _ => exact vb_four a b c d
theorem accN_upto (t : List Nat) (ht : t.length = 16) : ∀ k, k ≤ 4 → accN t 4 (List.range k) = vb 256 (t.take (4 * k)) := by
  intro k
  induction k with
  | zero => intro _; simp [accN, vb]
  | succ k ih =>
    intro hk
    have hp : (ch4 t k).length = 4 := by unfold ch4; rw [List.length_take, List.length_drop]; omega
    have h256 : (256 : Nat) ^ 4 = 4294967296 := by decide
    rw [List.range_succ, accN_snoc, ih (by omega), accF, cl_eq (by omega), ← vb_piece hp, show 4 * (k + 1) = 4 * k + 4 from by omega, List.take_add, vb_append]
    unfold ch4 at hp ⊢
    rw [hp, h256]
theorem accN_all (l : List Nat) (hl : l.length = 32) : accN (l.take 16) 4 (List.range 4) = vb 256 (l.take 16) := by
  have h16 : (l.take 16).length = 16 := by rw [List.length_take]; omega
  rw [accN_upto _ h16 4 (Nat.le_refl _), List.take_of_length_le (by omega)]
theorem step_mod (v r m : Nat) : ((v % m * (4294967296 % m) % m + r % m) % m) = (v * 4294967296 + r) % m := by
  rw [← Nat.mul_mod, ← Nat.add_mod]
/-- What the variables hold between two rounds. -/
def NN (w : World) (ca : Array Value) (m sc : Nat) (l pre : List Nat) (W : World) : Prop :=
  Below w.heap.size w W ∧ Blk W w.heap.size 25 ca ∧ Blk W (w.heap.size + 1) 3 #[.int .i64 ((m : Nat) : Int)] ∧ Blk W (w.heap.size + 1 + 1) 3 #[.int .i64 ((sc : Nat) : Int)] ∧ Blk W (w.heap.size + 1 + 1 + 1) 3 #[.int .i64 ((accN l 4 pre % m : Nat) : Int)] ∧ w.heap.size + 1 + 1 + 1 + 1 + 1 < W.heap.size
theorem NN_own (w : World) (ca : Array Value) (m sc : Nat) (l : List Nat) {B : Nat} (hB : w.heap.size ≤ B) : OwnFrom B (NN w ca m sc l) := fun s W W' row h hg hr => by
  obtain ⟨h1, h2, h3, h4, h5, h6⟩ := h
  have q : ∀ r, row = some r → ∃ o : Obj, W.heap[r]? = some o ∧ o.isCells = false := fun r e => (hr r e).2
  exact ⟨h1.grown hg h1.size (fun r e => Nat.le_trans hB (hr r e).1), h2.cells hg q, h3.cells hg q, h4.cells hg q, h5.cells hg q, Nat.lt_of_lt_of_le h6 hg.size⟩
theorem size_drewN' (w : World) (n : Nat) : (w.drewN n).heap.size = w.heap.size := rfl
theorem kp2_set (w : World) {p : Addr} {s t : Nat} (u : Value) (h1 : s ≠ p.block) (h2 : t ≠ p.block) : Kp2 s t w (w.setCell p u) := ⟨Below.heap_setCell w p u s h1, Below.heap_setCell w p u t h2⟩
theorem number_err (l : List Nat) (m : Int) (w : World) (h : m < 1 ∨ 2305843009213693952 ≤ m) :
    Calls Tryd.prog 21 #[hv l, .int .i64 m] w (fun e w' => e = .returned (.tuple #[.int .i64 0, .int .i64 1]) ∧ Below w.heap.size w w') := by
  obtain ⟨ca, hca⟩ : ∃ cs, cs = brow l := ⟨_, rfl⟩
  have e1 : hv l = .agg ca := by rw [hca]; rfl
  have WW := ((Below.refl w.heap.size w).alloc (Nat.le_refl _) (.cells ca 25)).alloc (by simp) (.cells #[.int .i64 m] 3)
  rw [e1]
  clear hca e1
  go_enter Tryd.func21, Tryd.ntmps21
  go_wp2_with fail
  refine (reduce_err 4294967296 m _ h).mono ?_
  rintro e w' ⟨rfl, n, rfl⟩
  go_wp2_with fail
  go_ret2
  exact ⟨rfl, (below_drewN WW n).alloc (below_drewN WW n).size _⟩
set_option maxRecDepth 100000 in
set_option maxHeartbeats 4000000 in
theorem number_ok (l : List Nat) (m : Nat) (w : World) (hl : l.length = 32) (h8 : ∀ x ∈ l, x < 256) (h1 : 1 ≤ m) (h2 : m < 2305843009213693952) :
    Calls Tryd.prog 21 #[hv l, .int .i64 ((m : Nat) : Int)] w (fun e w' => e = .returned (.tuple #[.int .i64 ((vb 256 (l.take 16) % m : Nat) : Int), .int .i64 0]) ∧ Below w.heap.size w w') := by
  obtain ⟨ca, hca⟩ : ∃ cs, cs = brow l := ⟨_, rfl⟩
  have e1 : hv l = .agg ca := by rw [hca]; rfl
  have za : ca.size = 32 := by rw [hca, brow_size, hl]
  obtain ⟨sc, hsc⟩ : ∃ s, s = 4294967296 % m := ⟨_, rfl⟩
  have HR : Hid (∀ V, Calls Tryd.prog 44 #[.int .i64 4294967296, .int .i64 ((m : Nat) : Int)] V (Ret (.tuple #[.int .i64 ((sc : Nat) : Int), .int .i64 0]) V)) := (show ∀ V, _ from fun V => by
    have h := reduce_ok 4294967296 ((m : Nat) : Int) V (by omega) (by omega) (by omega) (by omega)
    rw [show (4294967296 : Int) % ((m : Nat) : Int) = ((sc : Nat) : Int) by rw [hsc]; simp] at h
    exact h)
  have HSC := hid hsc
  have HCA := hid hca
  have HL := hid hl
  have H8 := hid h8
  rw [e1]
  clear e1 hca hsc hl h8
  refine callsIn_wide (n := 5) |>.1 ?_
  refine callsIn_of_wp_marks Tryd.func21 rfl trivial ?_ rfl
  simp only [Tryd.ntmps21, List.size_toArray, List.length_cons, List.length_nil, Nat.reduceAdd, Nat.reduceSub, Array.replicate_succ, Array.replicate_zero, List.push_toArray, List.append_toArray, List.nil_append, List.cons_append]
  gi_wp2_with (first | (refine ⟨trivial, ?_⟩; gi_at_call 44; refine (callsIn_wide.2 (HR.out _)).mono ?_; rintro e w' ⟨rfl, nd, rfl⟩) | (refine ⟨trivial, ?_⟩; gi_at_call 32; refine (callsIn_wide.2 (chunk_any4 (some ⟨w.heap.size, 0, none⟩) _ 32 _)).mono ?_; rintro e w' ⟨rfl, rfl⟩))
  (try simp only [World.size_alloc])
  have q0 := ((((((Blk.new w 25 ca).alloc (.cells #[.int .i64 ((m : Nat) : Int)] 3)).drewN nd).alloc (.cells #[.int .i64 ((sc : Nat) : Int)] 3)).alloc (.cells #[.int .i64 0] 3)).alloc (.cells #[.slice (some ⟨w.heap.size, 0, none⟩) 16 32] 22)).alloc (.cells #[.int .i64 4] 3)
  have q1 := (((((Blk.new (w.alloc (.cells ca 25)) 3 #[.int .i64 ((m : Nat) : Int)]).drewN nd).alloc (.cells #[.int .i64 ((sc : Nat) : Int)] 3)).alloc (.cells #[.int .i64 0] 3)).alloc (.cells #[.slice (some ⟨w.heap.size, 0, none⟩) 16 32] 22)).alloc (.cells #[.int .i64 4] 3)
  have q2 := (((Blk.new (((w.alloc (.cells ca 25)).alloc (.cells #[.int .i64 ((m : Nat) : Int)] 3)).drewN nd) 3 #[.int .i64 ((sc : Nat) : Int)]).alloc (.cells #[.int .i64 0] 3)).alloc (.cells #[.slice (some ⟨w.heap.size, 0, none⟩) 16 32] 22)).alloc (.cells #[.int .i64 4] 3)
  have q3 := ((Blk.new ((((w.alloc (.cells ca 25)).alloc (.cells #[.int .i64 ((m : Nat) : Int)] 3)).drewN nd).alloc (.cells #[.int .i64 ((sc : Nat) : Int)] 3)) 3 #[.int .i64 0]).alloc (.cells #[.slice (some ⟨w.heap.size, 0, none⟩) 16 32] 22)).alloc (.cells #[.int .i64 4] 3)
  have q4 := (Blk.new (((((w.alloc (.cells ca 25)).alloc (.cells #[.int .i64 ((m : Nat) : Int)] 3)).drewN nd).alloc (.cells #[.int .i64 ((sc : Nat) : Int)] 3)).alloc (.cells #[.int .i64 0] 3)) 22 #[.slice (some ⟨w.heap.size, 0, none⟩) 16 32]).alloc (.cells #[.int .i64 4] 3)
  have q5 := Blk.new ((((((w.alloc (.cells ca 25)).alloc (.cells #[.int .i64 ((m : Nat) : Int)] 3)).drewN nd).alloc (.cells #[.int .i64 ((sc : Nat) : Int)] 3)).alloc (.cells #[.int .i64 0] 3)).alloc (.cells #[.slice (some ⟨w.heap.size, 0, none⟩) 16 32] 22)) 3 #[.int .i64 4]
  have WW := ((Below.refl _ w).alloc (Nat.le_refl _) (.cells ca 25)).alloc (by simp) (.cells #[.int .i64 ((m : Nat) : Int)] 3)
  replace WW := ((((below_drewN WW nd).alloc (below_drewN WW nd).size (.cells #[.int .i64 ((sc : Nat) : Int)] 3)).alloc (by simp; omega) (.cells #[.int .i64 0] 3)).alloc (by simp; omega) (.cells #[.slice (some ⟨w.heap.size, 0, none⟩) 16 32] 22)).alloc (by simp; omega) (.cells #[.int .i64 4] 3)
  have hz : (((((((w.alloc (.cells ca 25)).alloc (.cells #[.int .i64 ((m : Nat) : Int)] 3)).drewN nd).alloc (.cells #[.int .i64 ((sc : Nat) : Int)] 3)).alloc (.cells #[.int .i64 0] 3)).alloc (.cells #[.slice (some ⟨w.heap.size, 0, none⟩) 16 32] 22)).alloc (.cells #[.int .i64 4] 3)).heap.size = w.heap.size + 1 + 1 + 1 + 1 + 1 + 1 := by simp
  simp only [World.size_alloc, size_drewN'] at q0 q1 q2 q3 q4 q5
  obtain ⟨V0, hV⟩ : ∃ V0, V0 = (((((((w.alloc (.cells ca 25)).alloc (.cells #[.int .i64 ((m : Nat) : Int)] 3)).drewN nd).alloc (.cells #[.int .i64 ((sc : Nat) : Int)] 3)).alloc (.cells #[.int .i64 0] 3)).alloc (.cells #[.slice (some ⟨w.heap.size, 0, none⟩) 16 32] 22)).alloc (.cells #[.int .i64 4] 3)) := ⟨_, rfl⟩
  rw [← hV] at q0 q1 q2 q3 q4 q5 WW hz
  change Code.wpIn _ _ _ _ _ _ (((((((w.alloc (.cells ca 25)).alloc (.cells #[.int .i64 ((m : Nat) : Int)] 3)).drewN nd).alloc (.cells #[.int .i64 ((sc : Nat) : Int)] 3)).alloc (.cells #[.int .i64 0] 3)).alloc (.cells #[.slice (some ⟨w.heap.size, 0, none⟩) 16 32] 22)).alloc (.cells #[.int .i64 4] 3))
  rw [← hV]
  clear hV
  have HZ := hid hz
  have hsz : w.heap.size + 1 + 1 + 1 + 1 + 1 < V0.heap.size := by omega
  clear hz
  obtain ⟨ad0, had0⟩ : ∃ ad : Addr, ad = ⟨w.heap.size, 0, none⟩ := ⟨_, rfl⟩
  have HAD := hid had0
  clear had0
  refine wpIn_rangeFunc_ownG rfl (by decide) (gf := 55) (lb := #[.pointer (some ⟨w.heap.size + 1 + 1 + 1 + 1, 0, none⟩), .pointer (some ⟨w.heap.size + 1 + 1 + 1 + 1 + 1, 0, none⟩)]) rfl trivial (enters_of Tryd.func55 (by kernel_rfl) rfl)
    (chunk_stops4 4 (w.heap.size + 1 + 1 + 1 + 1) (w.heap.size + 1 + 1 + 1 + 1 + 1) (some ⟨w.heap.size, 0, none⟩) ad0 16 4 32 rfl (by omega) (by omega) (by omega) (fun _ => by rw [HAD.out]) V0 (by omega) hsz q4.cell0 q5.cell0) (fun h k => h.trans k) (fun W l o o' hl _ _ _ => Kp2.putObj W o' (by omega) (by omega)) (Below.refl _ _) (fun _ => rfl)
    (fun pre W => NN w ca m sc (l.take 16) pre W) (fun c' pre W => NX c' pre W) (NN_own w ca m sc (l.take 16) (by omega)) (fun c' => NX_own c')
    ⟨WW, q0, q1, q2, by simpa [accN] using q3, hsz⟩
    (fun x => { tmps := #[.agg ca, .int .i64 ((m : Nat) : Int), .pointer (some ⟨w.heap.size, 0, none⟩), .pointer (some ⟨w.heap.size + 1, 0, none⟩), .int .i64 0, .int .i64 0, .pointer (some ⟨w.heap.size + 1 + 1, 0, none⟩), .int .i64 0, .pointer (some ⟨w.heap.size + 1 + 1 + 1, 0, none⟩), (.slice (some (ad0.add (4 * cl 4 x))) 4 4), undef, undef, undef, undef, .tuple #[.int .i64 ((sc : Nat) : Int), .int .i64 0], .int .i64 ((m : Nat) : Int), .tuple #[.int .i64 ((sc : Nat) : Int), .int .i64 0], .int .i64 ((sc : Nat) : Int), .int .i64 0, .int .i64 0, .bool false, undef, .slice (some ⟨w.heap.size, 0, none⟩) 16 32, .func (.func 55) #[] #[.pointer (some ⟨w.heap.size + 1 + 1 + 1 + 1, 0, none⟩), .pointer (some ⟨w.heap.size + 1 + 1 + 1 + 1 + 1, 0, none⟩)], (.slice (some (ad0.add (4 * cl 4 x))) 4 4), undef, undef, undef, undef, undef, undef, undef, undef, undef, undef, undef, undef, undef, undef, undef, undef, undef, undef, undef, undef, undef, undef, undef], defers := [] }) ?assign ?body ?done ?stop
  case assign =>
    intro l x W K hK
    gi_wp2
    exact hK
  case body =>
    rintro lp pre x U ⟨c1, b0, b1, b2, b3, hbig⟩ hlen
    obtain ⟨X, hX⟩ : ∃ X, X = accN (l.take 16) 4 pre % m := ⟨_, rfl⟩
    have hXm : X < m := by rw [hX]; exact Nat.mod_lt _ (by omega)
    have hscm : sc < m := by rw [HSC.out]; exact Nat.mod_lt _ (by omega)
    rw [← hX] at b3
    have HX := hid hX
    obtain ⟨P, hP⟩ : ∃ P, P = ch4 (l.take 16) (cl 4 x) := ⟨_, rfl⟩
    have hPl : P.length = 4 := by
      have := cl_lt (q := 4) (x := x) (y := 0) (by omega)
      rw [hP]; unfold ch4; rw [List.length_take, List.length_drop, List.length_take, HL.out]; omega
    have hP8 : ∀ i, P.getD i 0 < 256 := fun i => by
      rw [List.getD_eq_getElem?_getD]
      cases e : P[i]? with
      | none => simp
      | some v =>
        have h := List.mem_of_getElem? e
        rw [hP] at h; unfold ch4 at h
        exact H8.out v (List.mem_of_mem_take (List.mem_of_mem_drop (List.mem_of_mem_take h)))
    obtain ⟨rd, hrd⟩ : ∃ r, r = rd4 (P.getD 0 0) (P.getD 1 0) (P.getD 2 0) (P.getD 3 0) := ⟨_, rfl⟩
    have hrd32 : rd < 4294967296 := by
      have := hP8 0; have := hP8 1; have := hP8 2; have := hP8 3
      rw [hrd]; unfold rd4; omega
    obtain ⟨hi, hhi⟩ : ∃ h, h = X * sc % m := ⟨_, rfl⟩
    obtain ⟨lo, hlo⟩ : ∃ h, h = rd % m := ⟨_, rfl⟩
    obtain ⟨X2, hX2⟩ : ∃ h, h = (hi + lo) % m := ⟨_, rfl⟩
    have hhm : hi < m := by rw [hhi]; exact Nat.mod_lt _ (by omega)
    have hlm : lo < m := by rw [hlo]; exact Nat.mod_lt _ (by omega)
    have HN : Hid (accN (l.take 16) 4 (pre ++ [x]) % m = X2) := (show _ = _ by rw [accN_snoc, accF, ← step_mod, ← hX, hX2, hhi, hlo, hrd, hP, HSC.out])
    have HMU : Hid (∀ V, Calls Tryd.prog 45 #[.int .i64 ((X : Nat) : Int), .int .i64 ((sc : Nat) : Int), .int .i64 ((m : Nat) : Int)] V (Ret (.tuple #[.int .i64 ((hi : Nat) : Int), .int .i64 0]) V)) := (show ∀ V, _ from fun V => by
      have h := mul_ok ((X : Nat) : Int) ((sc : Nat) : Int) ((m : Nat) : Int) V (fault_zero (by omega) (by omega) (by omega) (by omega) (by omega) (by omega))
      rw [show ((X : Nat) : Int) * ((sc : Nat) : Int) % ((m : Nat) : Int) = ((hi : Nat) : Int) by rw [hhi]; simp] at h
      exact h)
    have HRE : Hid (∀ V, Calls Tryd.prog 44 #[.int .i64 ((rd : Nat) : Int), .int .i64 ((m : Nat) : Int)] V (Ret (.tuple #[.int .i64 ((lo : Nat) : Int), .int .i64 0]) V)) := (show ∀ V, _ from fun V => by
      have h := reduce_ok ((rd : Nat) : Int) ((m : Nat) : Int) V (by omega) (by omega) (by omega) (by omega)
      rw [show ((rd : Nat) : Int) % ((m : Nat) : Int) = ((lo : Nat) : Int) by rw [hlo]; simp] at h
      exact h)
    have HAS : Hid (∀ V, Calls Tryd.prog 47 #[.int .i64 ((hi : Nat) : Int), .int .i64 ((lo : Nat) : Int), .int .i64 ((m : Nat) : Int)] V (Ret (.tuple #[.int .i64 ((X2 : Nat) : Int), .int .i64 0]) V)) := (show ∀ V, _ from fun V => by
      have h := add_ok ((hi : Nat) : Int) ((lo : Nat) : Int) ((m : Nat) : Int) V (fault_zero (by omega) (by omega) (by omega) (by omega) (by omega) (by omega))
      rw [show (((hi : Nat) : Int) + ((lo : Nat) : Int)) % ((m : Nat) : Int) = ((X2 : Nat) : Int) by rw [hX2]; simp] at h
      exact h)
    have hcell : ∀ i, i < 4 → U.cell? ((ad0.add (4 * cl 4 x)).add i) = some (byt (P.getD i 0)) := fun i hi4 => by
      have hB : BN U U.heap.size (some ad0) (l.take 16) := fun j hj => by
        have hj2 : j < l.length := by rw [List.length_take] at hj; omega
        refine ⟨ad0, rfl, by rw [HAD.out]; exact b0.lt, ?_, ?_⟩
        · rw [HAD.out, add_at, Nat.zero_add, b0.cell j, HCA.out, List.getElem_take]
          simp [brow, hj2]
        · rw [List.getElem_take]
          have := H8.out _ (List.getElem_mem hj2)
          omega
      have hp := hB.piece4 (cl 4 x)
      rw [← hP] at hp
      exact (hp.bytes i (by omega)).1
    have HRD : Hid (∀ V, (∃ n, V = U.drewN n) → Calls Tryd.prog 46 #[.slice (some (ad0.add (4 * cl 4 x))) 4 4] V (Ret (.int .u32 ((rd : Nat) : Int)) V)) := (show ∀ V, _ from fun V hV => by
      obtain ⟨n, rfl⟩ := hV
      rw [hrd]
      have h0 := hcell 0 (by omega)
      rw [show (ad0.add (4 * cl 4 x)).add 0 = ad0.add (4 * cl 4 x) from by rw [add_of_add]; rfl] at h0
      exact read_any _ _ _ _ _ 4 4 (by omega) (hP8 0) (hP8 1) (hP8 2) (hP8 3) (U.drewN n) (Nat.le_refl _) h0 (hcell 1 (by omega)) (hcell 2 (by omega)) (hcell 3 (by omega)))
    clear hX hP hrd hhi hlo hX2 hcell hP8 hPl
    have hwr : IntKind.i64.wrap ((rd : Nat) : Int) = ((rd : Nat) : Int) := wrap_nat (by omega)
    have k1 := b1.cell0
    have k2 := b2.cell0
    have k3 := b3.cell0
    have f3 := b3.frozen 0
    have z3 := b3.lt
    gi_wp2_with (refine ⟨trivial, ?_⟩; gi_at_call 45; refine (callsIn_wide.2 (HMU.out _)).mono ?_; rintro e w' ⟨rfl, n1, rfl⟩)
    have hst : (fun V => ∃ n, V = U.drewN n) (U.drewN n1).drew := ⟨n1 + 1, rfl⟩
    refine regionIn_L 17 (fun V => ∃ n, V = U.drewN n) (by kernel_rfl) (by kernel_rfl) (by rintro ⟨_, _, h⟩; cases h) hst (fun hHeld => ?_)
    refine AnyL_take (i := 0) (oi := oq21_8_0) (v := ?_) rfl (by kernel_rfl) (by kernel_rfl) (by kernel_rfl) (by kernel_rfl) (fun _ _ _ h => h) (Or.inl ⟨by rfl, ?_⟩) (by assumption) ?_
    rotate_left
    · (delta oq21_8_0; intro ws hSw; (try dsimp only at hSw); (try go_simp); (try with_reducible rfl))
    (try simp only [oq21_8_0, Act.put, List.setIfInBounds_toArray, List.set_cons_zero, List.set_cons_succ])
    refine AnyL_take (i := 3) (oi := oq21_8_3) (v := .int .i64 ((m : Nat) : Int)) rfl (by kernel_rfl) (by kernel_rfl) (by kernel_rfl) (by kernel_rfl) (fun _ _ _ h => h) (Or.inl ⟨by rfl, fun ws h => by obtain ⟨n0, rfl⟩ := h; delta oq21_8_3; go_simp⟩) (by assumption) ?_
    (try simp only [oq21_8_3, Act.put, List.setIfInBounds_toArray, List.set_cons_zero, List.set_cons_succ])
    refine AnyL_ready (rs := [1]) (by kernel_rfl) (by simp) ?_
    refine ReadyL.cons (o := oq21_8_1) rfl (fun K hK => ?_) ReadyL.nil
    delta oq21_8_1
    go_simp
    obtain ⟨n0, hn0⟩ := hHeld
    refine (HRD.out _ ⟨n0, hn0⟩).mono ?_
    rintro e VV ⟨rfl, nn, hVV⟩
    have hS : (fun V => ∃ n, V = U.drewN n) VV := ⟨n0 + nn, by rw [hVV, hn0, World.drewN_drewN]⟩
    clear hVV hn0
    refine hK.out _ _ hS (fun hHeld2 => ?_)
    clear hK K hS
    have hHeld := hHeld2
    clear hHeld2
    (try simp only [oq21_8_1, Act.put, List.setIfInBounds_toArray, List.set_cons_zero, List.set_cons_succ])
    refine AnyL_take (i := 2) (oi := oq21_8_2) (v := ?_) rfl (by kernel_rfl) (by kernel_rfl) (by kernel_rfl) (by kernel_rfl) (fun _ _ _ h => h) (Or.inl ⟨by rfl, ?_⟩) (by assumption) ?_
    rotate_left
    · (delta oq21_8_2; intro ws hSw; (try dsimp only at hSw); (try go_simp); (try with_reducible rfl))
    (try simp only [oq21_8_2, Act.put, List.setIfInBounds_toArray, List.set_cons_zero, List.set_cons_succ])
    refine AnyL_ready (rs := [4]) (by kernel_rfl) (by simp) ?_
    refine ReadyL.cons (o := oq21_8_4) rfl (fun K hK => ?_) ReadyL.nil
    delta oq21_8_4
    go_simp
    refine (HRE.out _).mono ?_
    rintro e VV ⟨rfl, nn, hVV⟩
    have hS : (fun V => ∃ n, V = U.drewN n) VV := by obtain ⟨n0, hn0⟩ := hHeld; exact ⟨n0 + nn, by rw [hVV, hn0, World.drewN_drewN]⟩
    clear hVV
    refine hK.out _ _ hS (fun hHeld2 => ?_)
    clear hK K hHeld hS
    have hHeld := hHeld2
    clear hHeld2
    (try simp only [oq21_8_4, Act.put, List.setIfInBounds_toArray, List.set_cons_zero, List.set_cons_succ])
    refine AnyL_take (i := 5) (oi := oq21_8_5) (v := ?_) rfl (by kernel_rfl) (by kernel_rfl) (by kernel_rfl) (by kernel_rfl) (fun _ _ _ h => h) (Or.inl ⟨by rfl, ?_⟩) (by assumption) ?_
    rotate_left
    · (delta oq21_8_5; intro ws hSw; (try dsimp only at hSw); (try go_simp); (try with_reducible rfl))
    (try simp only [oq21_8_5, Act.put, List.setIfInBounds_toArray, List.set_cons_zero, List.set_cons_succ])
    refine AnyL_take (i := 6) (oi := oq21_8_6) (v := ?_) rfl (by kernel_rfl) (by kernel_rfl) (by kernel_rfl) (by kernel_rfl) (fun _ _ _ h => h) (Or.inl ⟨by rfl, ?_⟩) (by assumption) ?_
    rotate_left
    · (delta oq21_8_6; intro ws hSw; (try dsimp only at hSw); (try go_simp); (try with_reducible rfl))
    (try simp only [oq21_8_6, Act.put, List.setIfInBounds_toArray, List.set_cons_zero, List.set_cons_succ])
    refine AnyL_take (i := 7) (oi := oq21_8_7) (v := ?_) rfl (by kernel_rfl) (by kernel_rfl) (by kernel_rfl) (by kernel_rfl) (fun _ _ _ h => h) (Or.inl ⟨by rfl, ?_⟩) (by assumption) ?_
    rotate_left
    · (delta oq21_8_7; intro ws hSw; (try dsimp only at hSw); (try go_simp); (try with_reducible rfl))
    (try simp only [oq21_8_7, Act.put, List.setIfInBounds_toArray, List.set_cons_zero, List.set_cons_succ])
    refine AnyL_take (i := 8) (oi := oq21_8_8) (v := ?_) rfl (by kernel_rfl) (by kernel_rfl) (by kernel_rfl) (by kernel_rfl) (fun _ _ _ h => h) (Or.inl ⟨by rfl, ?_⟩) (by assumption) ?_
    rotate_left
    · (delta oq21_8_8; intro ws hSw; (try dsimp only at hSw); (try go_simp); (try with_reducible rfl))
    (try simp only [oq21_8_8, Act.put, List.setIfInBounds_toArray, List.set_cons_zero, List.set_cons_succ])
    refine AnyL_take (i := 9) (oi := oq21_8_9) (v := ?_) rfl (by kernel_rfl) (by kernel_rfl) (by kernel_rfl) (by kernel_rfl) (fun _ _ _ h => h) (Or.inl ⟨by rfl, ?_⟩) (by assumption) ?_
    rotate_left
    · (delta oq21_8_9; intro ws hSw; (try dsimp only at hSw); (try go_simp); (try with_reducible rfl))
    (try simp only [oq21_8_9, Act.put, List.setIfInBounds_toArray, List.set_cons_zero, List.set_cons_succ])
    refine AnyL_done (by kernel_rfl) ?_ _
    obtain ⟨n2, hn2⟩ := hHeld
    clear hst
    have d0 : Blk (U.drewN n2) w.heap.size 25 ca := b0
    have d1 : Blk (U.drewN n2) (w.heap.size + 1) 3 #[.int .i64 ((m : Nat) : Int)] := b1
    have d2 : Blk (U.drewN n2) (w.heap.size + 1 + 1) 3 #[.int .i64 ((sc : Nat) : Int)] := b2
    have d3 : Blk (U.drewN n2) (w.heap.size + 1 + 1 + 1) 3 #[.int .i64 ((X : Nat) : Int)] := b3
    have dk := Kp2.drewN (Kp2.refl (s := w.heap.size + 1 + 1 + 1 + 1) (t := w.heap.size + 1 + 1 + 1 + 1 + 1) U) n2
    have df : KeepsFrom V0.heap.size U (U.drewN n2) := ⟨Nat.le_refl _, fun k o _ h _ => h⟩
    have dw := below_drewN c1 n2
    have ds : w.heap.size + 1 + 1 + 1 + 1 + 1 < (U.drewN n2).heap.size := hbig
    rw [hn2]
    clear hn2
    generalize U.drewN n2 = U2 at d0 d1 d2 d3 dk df dw ds ⊢
    have k1 := d1.cell0
    have k3 := d3.cell0
    have f3 := d3.frozen 0
    have z3 := d3.lt
    gi_wp2_with (refine ⟨trivial, ?_⟩; gi_at_call 47; refine (callsIn_wide.2 (HAS.out _)).mono ?_; rintro e w' ⟨rfl, n3, rfl⟩)
    refine ⟨(df.trans (show KeepsFrom V0.heap.size U2 (U2.drewN n3) from ⟨Nat.le_refl _, fun k o _ h _ => h⟩)).trans ((KeepsOthers.setCell _ _ _).from _), (dk.drewN n3).trans (kp2_set _ _ (by simp <;> omega) (by simp <;> omega)), ?_⟩
    refine ⟨(below_drewN dw n3).setCell (by simp <;> omega) _, (d0.drewN n3).far (by simp <;> omega) _, (d1.drewN n3).far (by simp <;> omega) _, (d2.drewN n3).far (by simp <;> omega) _, by rw [HN.out]; exact (d3.drewN n3).set_ 0 _, by simpa using ds⟩
  case done =>
    rintro D ys U hD rfl ⟨c1, b0, b1, b2, b3, hbig⟩ hK
    rw [accN_all l HL.out] at b3
    have k3 := b3.cell0
    gi_wp2
    have G := grownBy_putObj' U D (.deferred none)
    have E := c1.grown G c1.size (fun r e => by cases e; omega)
    refine ⟨by simp, .inl ⟨_, _, rfl, run_takeDeferred hK, ?_⟩⟩
    exact ⟨.tuple #[.int .i64 ((vb 256 (l.take 16) % m : Nat) : Int), .int .i64 0], (by simp [results, Tryd.results21, go_sem]), rfl, E⟩
  case stop =>
    rintro D c' pre W hD hp h hK
    exact h.elim
end Go.Proofs.YtenmdfhdiepfcaaDoor
