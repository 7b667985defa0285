/- natform.number. -/
import Derived.Test.YtohiimpjcgcaiaaChk
set_option linter.unusedVariables false
set_option linter.unusedSimpArgs false
namespace Go.Proofs.Ytohiimpjcgcaiaa
open Go Go.RowKit
attribute [local go_sem] Oper.semAt_some

/-- The number of the pieces that have come. -/
def FN (b : Nat) (l pre : List Nat) : Nat := vb b (pre.flatMap (ch l))
theorem FN_snoc (b : Nat) (l pre : List Nat) (x : Nat) : FN b l (pre ++ [x]) = FN b l pre * b ^ (chL l.length x) + vb b (ch l x) := by
  unfold FN; rw [List.flatMap_append, vb_append]; simp [ch_len]
theorem FN_all (b : Nat) (l : List Nat) : FN b l (List.range (chN l.length)) = vb b l := by
  unfold FN; rw [ch_all, List.take_of_length_le (by unfold chN; omega)]
theorem FN_part {b : Nat} (hb : 0 < b) (l : List Nat) (k : Nat) : FN b l (List.range k) ≤ vb b l := by
  unfold FN
  rw [ch_all]
  conv => rhs; rw [← List.take_append_drop (7 * k) l]
  exact vb_mono hb _ _
theorem keepsFrom_below {w w' : World} (h : Below w.heap.size w w') (B : Nat) : KeepsFrom B w w' :=
  ⟨h.size, fun k o _ hk _ => (h.block k (Array.getElem?_eq_some_iff.1 hk).1).trans hk⟩
theorem kp2_below {w w' : World} {s t : Nat} (h : Below w.heap.size w w') (h1 : s < w.heap.size) (h2 : t < w.heap.size) : Kp2 s t w w' := ⟨h.block s h1, h.block t h2⟩
theorem kp2_set (w : World) {p : Addr} {s t : Nat} (u : Value) (h1 : s ≠ p.block) (h2 : t ≠ p.block) : Kp2 s t w (w.setCell p u) := ⟨Below.heap_setCell w p u s h1, Below.heap_setCell w p u t h2⟩
-- OPS
def oq32_11_0 : Oper := { dst := some 29, op := Op.load 24 (Operand.tmp 6), type := 24, pos := "digits.go:60", after := #[], guard := none }
def oq32_11_1 : Oper := { dst := some 30, op := Op.load 3 (Operand.tmp 3), type := 3, pos := "digits.go:60", after := #[], guard := none }
def oq32_11_2 : Oper := { dst := some 31, op := Op.move (Operand.tmp 7), type := 37, pos := "digits.go:60", after := #[], guard := none }
def oq32_11_3 : Oper := { dst := some 32, op := Op.call { callee := Callee.builtin Builtin.len, args := #[Operand.tmp 31], argTypes := #[37] }, type := 3, pos := "digits.go:60", after := #[{ on := 2, ground := Ground.data }], guard := none }
def oq32_11_4 : Oper := { dst := some 33, op := Op.call { callee := Callee.value (Operand.func 36), args := #[Operand.tmp 30, Operand.tmp 32], argTypes := #[3, 3] }, type := 3, pos := "digits.go:60", after := #[{ on := 1, ground := Ground.data }, { on := 3, ground := Ground.data }], guard := none }
def oq32_11_5 : Oper := { dst := some 34, op := Op.move (Operand.tmp 8), type := 3, pos := "digits.go:60", after := #[], guard := none }
def oq32_11_6 : Oper := { dst := some 35, op := Op.call { callee := Callee.value (Operand.func 41), args := #[Operand.tmp 29, Operand.tmp 33, Operand.tmp 34], argTypes := #[24, 3, 3] }, type := 31, pos := "digits.go:60", after := #[{ on := 0, ground := Ground.data }, { on := 4, ground := Ground.data }, { on := 5, ground := Ground.data }, { on := 4, ground := Ground.chain }], guard := none }
def oq32_11_7 : Oper := { dst := some 28, op := Op.move (Operand.tmp 35), type := 31, pos := "digits.go:60", after := #[{ on := 6, ground := Ground.data }], guard := none }
def oq32_11_8 : Oper := { dst := some 36, op := Op.extract (Operand.tmp 28) 0, type := 24, pos := "digits.go:60", after := #[{ on := 7, ground := Ground.data }], guard := none }
def oq32_11_9 : Oper := { dst := some 37, op := Op.extract (Operand.tmp 28) 1, type := 30, pos := "digits.go:60", after := #[{ on := 7, ground := Ground.data }, { on := 10, ground := Ground.gcOnly Departure.lateStores }], guard := none }
def oq32_11_10 : Oper := { dst := none, op := Op.store 24 (Operand.tmp 6) (Operand.tmp 36), type := 0, pos := "digits.go:60", after := #[{ on := 8, ground := Ground.data }, { on := 6, ground := Ground.chain }, { on := 0, ground := Ground.phase }, { on := 1, ground := Ground.phase }, { on := 2, ground := Ground.phase }, { on := 3, ground := Ground.phase }, { on := 4, ground := Ground.phase }, { on := 5, ground := Ground.phase }, { on := 6, ground := Ground.phase }, { on := 7, ground := Ground.phase }, { on := 8, ground := Ground.phase }, { on := 9, ground := Ground.textOnly Departure.lateStores }], guard := none }
def oq32_11_11 : Oper := { dst := some 11, op := Op.assign (Operand.tmp 37), type := 30, pos := "digits.go:60", after := #[{ on := 9, ground := Ground.data }, { on := 10, ground := Ground.chain }, { on := 0, ground := Ground.phase }, { on := 1, ground := Ground.phase }, { on := 2, ground := Ground.phase }, { on := 3, ground := Ground.phase }, { on := 4, ground := Ground.phase }, { on := 5, ground := Ground.phase }, { on := 6, ground := Ground.phase }, { on := 7, ground := Ground.phase }, { on := 8, ground := Ground.phase }, { on := 9, ground := Ground.phase }, { on := 10, ground := Ground.phase }], guard := none }
-- END OPS
/-- What the variables hold between two rounds. -/
def NI (w : World) (b : Nat) (l pre : List Nat) (W : World) : Prop :=
  ∃ D d, Below w.heap.size w W ∧ Blk W w.heap.size 3 #[.int .i64 ((b : Nat) : Int)] ∧ Blk W (w.heap.size + 1) 24 #[.slice none 0 0] ∧ Blk W (w.heap.size + 1 + 1) 30 #[.int .i64 0] ∧ VB w.heap.size W (w.heap.size + 1 + 1 + 1) D (nw (FN b l pre)) d (FN b l pre) ∧ nw (FN b l pre) ≤ 64 ∧ w.heap.size + 1 + 1 + 1 + 1 + 1 < W.heap.size ∧ Own W w.heap.size D (nw (FN b l pre)) d (FN b l pre)
/-- .. and where a round has left the loop. -/
def NX (w : World) (b : Nat) (l : List Nat) (c : Code) (pre : List Nat) (W : World) : Prop :=
  c = .ret ∧ ¬ nw (FN b l pre) ≤ 64 ∧ Below w.heap.size w W ∧ Blk W (w.heap.size + 1) 24 #[.slice none 0 0] ∧ Blk W (w.heap.size + 1 + 1) 30 #[.int .i64 9]
theorem Blk.cells {w w' : World} {g : Nat} {t : TypeId} {cs : Array Value} {row : Option Nat} (h : Blk w g t cs) (hg : w.grownBy w' row) (hr : ∀ r, row = some r → ∃ o : Obj, w.heap[r]? = some o ∧ o.isCells = false) : Blk w' g t cs :=
  h.grown hg (fun e => by
    obtain ⟨o, ho, hc⟩ := hr g e.symm
    unfold Blk at h
    rw [h] at ho
    injection ho with ho
    subst ho
    cases hc)
theorem Own.cells {w w' : World} {base n c a : Nat} {A : Option Addr} {row : Option Nat} (h : Own w base A n c a) (hg : w.grownBy w' row) (hr : ∀ r, row = some r → ∃ o : Obj, w.heap[r]? = some o ∧ o.isCells = false) : Own w' base A n c a :=
  ⟨h.1, h.2.1, h.2.2.1, fun hn => by
    obtain ⟨g, cs, e, h1, h2, h3⟩ := h.2.2.2 hn
    exact ⟨g, cs, e, h1, h2.cells hg hr, h3⟩⟩
theorem VB.cells {w w' : World} {B g n c a : Nat} {A : Option Addr} {row : Option Nat} (h : VB B w g A n c a) (hg : w.grownBy w' row) (hr : ∀ r, row = some r → ∃ o : Obj, w.heap[r]? = some o ∧ o.isCells = false) (hB : ∀ r, row = some r → B ≤ r) : VB B w' g A n c a := by
  refine ⟨h.1.cells hg hr, ?_, h.2.2⟩
  rcases h.2.1 with h1 | h1
  · exact .inl (h1.keep fun p hp => World.cell?_of_block (hg.block p.block (by have := h.1.lt; have := h.2.2; omega) (fun e => by have := hB _ e.symm; omega)))
  · exact .inr (h1.cells hg hr)
theorem NI_own (w : World) (b : Nat) (l : List Nat) {B : Nat} (hB : w.heap.size ≤ B) : OwnFrom B (NI w b l) := fun s W W' row h hg hr => by
  obtain ⟨D, d, h1, h2, h3, h4, h5, h6, h7, h8⟩ := h
  have q : ∀ r, row = some r → ∃ o : Obj, W.heap[r]? = some o ∧ o.isCells = false := fun r e => (hr r e).2
  have q2 : ∀ r, row = some r → w.heap.size ≤ r := fun r e => Nat.le_trans hB (hr r e).1
  exact ⟨D, d, h1.grown hg h1.size q2, h2.cells hg q, h3.cells hg q, h4.cells hg q, h5.cells hg q q2, h6, Nat.lt_of_lt_of_le h7 hg.size, h8.cells hg q⟩
theorem NX_own (w : World) (b : Nat) (l : List Nat) (c : Code) {B : Nat} (hB : w.heap.size ≤ B) : OwnFrom B (NX w b l c) := fun s W W' row h hg hr => by
  obtain ⟨h1, h2, h3, h4, h5⟩ := h
  have q : ∀ r, row = some r → ∃ o : Obj, W.heap[r]? = some o ∧ o.isCells = false := fun r e => (hr r e).2
  have q2 : ∀ r, row = some r → w.heap.size ≤ r := fun r e => Nat.le_trans hB (hr r e).1
  exact ⟨h1, h2, h3.grown hg h3.size q2, h4.cells hg q, h5.cells hg q⟩

set_option maxRecDepth 100000 in
set_option maxHeartbeats 4000000 in
theorem numb_any (A : Option Addr) (n c b : Nat) (l : List Nat) (w : World) (hA : BN w w.heap.size A l) (hl : l.length = n) (hn : n ≤ 1000) (hc : n ≤ c) (hcm : c ≤ 9223372036854775807) (hb : b ≤ 256) (hb0 : 0 < b) (hd : ∀ d ∈ l, d < b) :
    Calls Try.prog 32 #[.slice A n c, .int .i64 ((b : Nat) : Int)] w (RetTwo w.heap.size (limS (vb b l)).1 (limS (vb b l)).2 w) := by
  refine callsIn_wide (n := 5) |>.1 ?_
  refine callsIn_of_wp_marks Try.func32 rfl trivial ?_ rfl
  simp only [Try.ntmps32, List.size_toArray, List.length_cons, List.length_nil, Nat.reduceAdd, Nat.reduceSub, Array.replicate_succ, Array.replicate_zero, List.push_toArray, List.append_toArray, List.nil_append, List.cons_append]
  have HL := hid hl
  have HD := hid hd
  have HA := hid hA
  clear hl hd hA
  gi_wp2_with (refine ⟨trivial, ?_⟩; gi_at_call 40; refine (callsIn_wide.2 (chunk_any A n c _)).mono ?_; rintro e w' ⟨rfl, rfl⟩)
  (try simp only [World.size_alloc])
  have q0 := Blk.new w 3 #[.int .i64 ((b : Nat) : Int)]
  have q1 := Blk.new (w.alloc (.cells #[.int .i64 ((b : Nat) : Int)] 3)) 24 #[.slice none 0 0]
  have q2 := Blk.new ((w.alloc (.cells #[.int .i64 ((b : Nat) : Int)] 3)).alloc (.cells #[.slice none 0 0] 24)) 30 #[.int .i64 0]
  have q3 := Blk.new (((w.alloc (.cells #[.int .i64 ((b : Nat) : Int)] 3)).alloc (.cells #[.slice none 0 0] 24)).alloc (.cells #[.int .i64 0] 30)) 24 #[.slice none 0 0]
  have q4 := Blk.new ((((w.alloc (.cells #[.int .i64 ((b : Nat) : Int)] 3)).alloc (.cells #[.slice none 0 0] 24)).alloc (.cells #[.int .i64 0] 30)).alloc (.cells #[.slice none 0 0] 24)) 37 #[.slice A n c]
  have q5 := Blk.new (((((w.alloc (.cells #[.int .i64 ((b : Nat) : Int)] 3)).alloc (.cells #[.slice none 0 0] 24)).alloc (.cells #[.int .i64 0] 30)).alloc (.cells #[.slice none 0 0] 24)).alloc (.cells #[.slice A n c] 37)) 3 #[.int .i64 7]
  have WW := (((((((Below.refl _ w).alloc (Nat.le_refl _) (.cells #[.int .i64 ((b : Nat) : Int)] 3)).alloc (by simp) (.cells #[.slice none 0 0] 24)).alloc (by simp; omega) (.cells #[.int .i64 0] 30)).alloc (by simp; omega) (.cells #[.slice none 0 0] 24)).alloc (by simp; omega) (.cells #[.slice A n c] 37)).alloc (by simp; omega) (.cells #[.int .i64 7] 3))
  replace q0 := ((((q0.alloc (.cells #[.slice none 0 0] 24)).alloc (.cells #[.int .i64 0] 30)).alloc (.cells #[.slice none 0 0] 24)).alloc (.cells #[.slice A n c] 37)).alloc (.cells #[.int .i64 7] 3)
  replace q1 := (((q1.alloc (.cells #[.int .i64 0] 30)).alloc (.cells #[.slice none 0 0] 24)).alloc (.cells #[.slice A n c] 37)).alloc (.cells #[.int .i64 7] 3)
  replace q2 := ((q2.alloc (.cells #[.slice none 0 0] 24)).alloc (.cells #[.slice A n c] 37)).alloc (.cells #[.int .i64 7] 3)
  replace q3 := (q3.alloc (.cells #[.slice A n c] 37)).alloc (.cells #[.int .i64 7] 3)
  replace q4 := q4.alloc (.cells #[.int .i64 7] 3)
  have hz : ((((((w.alloc (.cells #[.int .i64 ((b : Nat) : Int)] 3)).alloc (.cells #[.slice none 0 0] 24)).alloc (.cells #[.int .i64 0] 30)).alloc (.cells #[.slice none 0 0] 24)).alloc (.cells #[.slice A n c] 37)).alloc (.cells #[.int .i64 7] 3)).heap.size = w.heap.size + 1 + 1 + 1 + 1 + 1 + 1 := by simp
  simp only [World.size_alloc] at q0 q1 q2 q3 q4 q5
  generalize hV : (((((w.alloc (.cells #[.int .i64 ((b : Nat) : Int)] 3)).alloc (.cells #[.slice none 0 0] 24)).alloc (.cells #[.int .i64 0] 30)).alloc (.cells #[.slice none 0 0] 24)).alloc (.cells #[.slice A n c] 37)).alloc (.cells #[.int .i64 7] 3) = V0 at q0 q1 q2 q3 q4 q5 WW hz ⊢
  clear hV
  have HZ := hid hz
  have hsz : w.heap.size + 1 + 1 + 1 + 1 + 1 < V0.heap.size := by omega
  clear hz
  obtain ⟨ad, had⟩ : ∃ ad, 0 < n → A = some ad := by
    by_cases h : 0 < n
    · obtain ⟨ad, e, _⟩ := HA.out 0 (by rw [HL.out]; exact h)
      exact ⟨ad, fun _ => e⟩
    · exact ⟨⟨0, 0, none⟩, fun h2 => absurd h2 h⟩
  have HAD := hid had
  clear had
  refine wpIn_rangeFunc_ownG rfl (by decide) (gf := 46) (lb := #[.pointer (some ⟨w.heap.size + 1 + 1 + 1 + 1, 0, none⟩), .pointer (some ⟨w.heap.size + 1 + 1 + 1 + 1 + 1, 0, none⟩)]) rfl trivial (enters_of Try.func46 (by kernel_rfl) rfl)
    (chunk_stops 4 (w.heap.size + 1 + 1 + 1 + 1) (w.heap.size + 1 + 1 + 1 + 1 + 1) A ad n c (by omega) hc hcm HAD.out V0 (by omega) hsz q4.cell0 q5.cell0) (fun h k => h.trans k) (fun W l o o' hl _ _ _ => Kp2.putObj W o' (by omega) (by omega)) (Below.refl _ _) (fun _ => rfl)
    (fun pre W => NI w b l pre W) (fun c' pre W => NX w b l c' pre W) (NI_own w b l (by omega)) (fun c' => NX_own w b l c' (by omega))
    ⟨none, 0, WW, q0, q1, q2, ⟨q3, .inr (Own.nil _ _ _ _ (Nat.zero_le _)), by omega⟩, (by decide : nw 0 ≤ 64), hsz, Own.nil _ _ _ _ (Nat.zero_le _)⟩
    (fun x => { tmps := #[.slice A n c, .int .i64 ((b : Nat) : Int), undef, .pointer (some ⟨w.heap.size, 0, none⟩), .pointer (some ⟨w.heap.size + 1, 0, none⟩), .pointer (some ⟨w.heap.size + 1 + 1, 0, none⟩), .pointer (some ⟨w.heap.size + 1 + 1 + 1, 0, none⟩),
      .slice (some (ad.add (7 * x))) (chL n x) (chL n x), undef, undef, undef, undef, .slice A n c, .func (.func 46) #[] #[.pointer (some ⟨w.heap.size + 1 + 1 + 1 + 1, 0, none⟩), .pointer (some ⟨w.heap.size + 1 + 1 + 1 + 1 + 1, 0, none⟩)], .slice (some (ad.add (7 * x))) (chL n x) (chL n x), undef, undef, undef, undef, undef, undef, undef, undef, undef, undef, undef, undef, undef, undef, undef, undef, undef, undef, undef, undef, undef, undef, undef, undef, undef, undef, undef, undef], defers := [] }) ?assign ?body ?done ?stop
  case assign =>
    intro l x W K hK
    gi_wp2
    exact hK
  case body =>
    rintro lp pre x W ⟨D, d, h1, b0, b1, b2, XN, h64, hbig, OO⟩ hlen
    obtain ⟨S, hS⟩ : ∃ S, S = FN b l pre := ⟨_, rfl⟩
    rw [← hS] at XN h64
    clear OO
    have HS := hid hS
    clear hS
    obtain ⟨bd, hbd⟩ : ∃ bd, bd = ad.add (7 * x) := ⟨_, rfl⟩
    have hBN : BN W w.heap.size (some bd) (ch l x) := by
      intro i hi
      have h0 : 0 < n := by rw [← HL.out]; unfold ch at hi; simp at hi; omega
      have h2 := (HA.out.below h1)
      rw [HAD.out h0] at h2
      rw [hbd]
      exact h2.piece x i hi
    rw [← hbd]
    obtain ⟨e, hE⟩ : ∃ e, e = chL n x := ⟨_, rfl⟩
    have he7 : e ≤ 7 := by rw [hE]; unfold chL; omega
    obtain ⟨ys, hys⟩ : ∃ ys, ys = ch l x := ⟨_, rfl⟩
    have HYL : Hid (ys.length = e) := (show ys.length = e by rw [hys, ch_len, HL.out, hE])
    have HYD : Hid (∀ y ∈ ys, y < b) := (show ∀ y ∈ ys, y < b by rw [hys]; unfold ch; exact fun y hy => HD.out y (List.mem_of_mem_drop (List.mem_of_mem_take hy)))
    rw [← hE]
    rw [← hys] at hBN
    have HBN := hid hBN
    have HTot : Hid (FN b l (pre ++ [x]) = S * b ^ e + vb b ys) := (show _ = _ by rw [FN_snoc, HS.out, HL.out, hE, hys])
    clear hBN hys hE hbd
    have k0 := b0.cell0
    have kN := XN.cell
    gi_wp2
    gi_loopw [8, 17] (fun v i wr => ∃ k : Nat, k ≤ e ∧ i = .int .i64 ((k : Nat) : Int) ∧ v = .int .i64 ((vb b (ys.take k) : Nat) : Int) ∧ wr = W) (fun v i wr => e - (intOf i).toNat)
    case atStart => exact ⟨0, Nat.zero_le _, by go_num, by simp [vb], rfl⟩
    case round =>
      obtain ⟨k, hk, rfl, rfl, rfl⟩ := hrel
      by_cases hke : k < e
      · have hkl : k < ys.length := by rw [HYL.out]; exact hke
        obtain ⟨ad', e', hab, hac, hy⟩ := HBN.out k hkl
        injection e' with e'
        subst e'
        unfold byt at hac
        obtain ⟨y, hy0⟩ : ∃ y, y = ys[k] := ⟨_, rfl⟩
        rw [← hy0] at hac hy
        have HY := hid hy0
        clear hy0
        obtain ⟨X, hX⟩ : ∃ X, X = vb b (ys.take k) := ⟨_, rfl⟩
        rw [← hX]
        have HT : Hid (X * b + y = vb b (ys.take (k + 1))) := (show _ = _ by rw [vb_take hkl, hX, HY.out])
        have hXb : X * b + y < 72057594037927936 := by
          rw [HT.out]
          have := vb_bd (b := b) (ys := ys.take (k + 1)) (fun z hz => HYD.out z (List.mem_of_mem_take hz))
          have h2 : (ys.take (k + 1)).length ≤ 7 := by simp; omega
          exact Nat.lt_of_lt_of_le this (pow_bd hb h2)
        clear hX
        obtain ⟨q, hq⟩ : ∃ q, q = X * b := ⟨_, rfl⟩
        rw [← hq] at HT hXb
        have hX2 : X ≤ q := by rw [hq]; exact Nat.le_mul_of_pos_right _ hb0
        have h3 : ((X : Nat) : Int) * ((b : Nat) : Int) = ((q : Nat) : Int) := by rw [hq, Int.natCast_mul]
        have l2 : decide (((k : Nat) : Int) < ((e : Nat) : Int)) = true := by simpa using hke
        clear hq
        gi_wp2
        go_roundw
        case rel => exact ⟨k + 1, by omega, by go_num, by rw [← HT.out]; go_num, trivial⟩
        case measure => simp [intOf] <;> omega
      · obtain rfl : k = e := by omega
        have l2 : decide (((k : Nat) : Int) < ((k : Nat) : Int)) = false := by simp
        have hXb : vb b (ys.take k) < 72057594037927936 := by
          have := vb_bd (b := b) (ys := ys.take k) (fun z hz => HYD.out z (List.mem_of_mem_take hz))
          exact Nat.lt_of_lt_of_le this (pow_bd hb (by simp; omega))
        obtain ⟨X, hX⟩ : ∃ X, X = vb b (ys.take k) := ⟨_, rfl⟩
        rw [← hX] at hXb ⊢
        have hpow : b ^ k ≤ 9223372036854775807 := Nat.le_trans (pow_bd hb he7) (by decide)
        have hX1 : X ≤ 9223372036854775807 := by omega
        obtain ⟨r, hr⟩ : ∃ r, r = limS (FN b l (pre ++ [x])) := ⟨_, rfl⟩
        have HT : Hid (limS (S * b ^ k + X) = r) := (show _ = _ by rw [hr, HTot.out, hX, List.take_of_length_le (Nat.le_of_eq HYL.out)])
        have HR := hid hr
        clear hX hr
        gi_wp2
        -- REGION
        clear kN k0
        apply wpIn_landA (R := fun D2 d2 w1 => Below w.heap.size w w1 ∧ Blk w1 w.heap.size 3 #[.int .i64 ((b : Nat) : Int)] ∧ Blk w1 (w.heap.size + 1) 24 #[.slice none 0 0] ∧ Blk w1 (w.heap.size + 1 + 1) 30 #[.int .i64 0] ∧ VB w.heap.size w1 (w.heap.size + 1 + 1 + 1) D2 (nw r.1) d2 r.1 ∧ KeepsFrom V0.heap.size wr w1 ∧ Kp2 (w.heap.size + 1 + 1 + 1 + 1) (w.heap.size + 1 + 1 + 1 + 1 + 1) wr w1 ∧ w.heap.size + 1 + 1 + 1 + 1 + 1 < w1.heap.size ∧ Own w1 w.heap.size D2 (nw r.1) d2 r.1)
        case hreg =>
          refine regionIn_noPanic ?_
          have hst : (fun w' => w'.cell? ⟨w.heap.size + 1 + 1 + 1, 0, none⟩ = some (.slice D (nw S) d) ∧ w'.cell? ⟨w.heap.size, 0, none⟩ = some (.int .i64 ((b : Nat) : Int))) wr.drew := ⟨XN.cell, b0.cell0⟩
          refine regionIn_L 10 (fun w' => w'.cell? ⟨w.heap.size + 1 + 1 + 1, 0, none⟩ = some (.slice D (nw S) d) ∧ w'.cell? ⟨w.heap.size, 0, none⟩ = some (.int .i64 ((b : Nat) : Int))) (by kernel_rfl) (by kernel_rfl) (by rintro ⟨_, _, h⟩; cases h.1) hst (fun hHeld => ?_)
          clear hst
          replace h1 := h1.drew
          replace XN := XN.drew
          replace b0 : Blk wr.drew w.heap.size 3 #[.int .i64 ((b : Nat) : Int)] := b0
          replace b1 : Blk wr.drew (w.heap.size + 1) 24 #[.slice none 0 0] := b1
          replace b2 : Blk wr.drew (w.heap.size + 1 + 1) 30 #[.int .i64 0] := b2
          have KF : KeepsFrom V0.heap.size wr wr.drew := (KeepsOthers.drew wr).from _
          have KP : Kp2 (w.heap.size + 1 + 1 + 1 + 1) (w.heap.size + 1 + 1 + 1 + 1 + 1) wr wr.drew := Kp2.refl _
          replace hbig : w.heap.size + 1 + 1 + 1 + 1 + 1 < wr.drew.heap.size := hbig
          generalize hV : wr.drew = V1 at hHeld h1 XN b0 b1 b2 KF KP hbig ⊢
          clear hV
          refine AnyL_take (i := 0) (oi := oq32_11_0) (v := ?_) rfl (by kernel_rfl) (by kernel_rfl) (by kernel_rfl) (by kernel_rfl) (fun _ _ _ h => h) (Or.inl ⟨by rfl, ?_⟩) (by assumption) ?_
          rotate_left
          · (delta oq32_11_0; intro ws hSw; (try dsimp only at hSw); (try go_simp); (try with_reducible rfl))
          (try simp only [oq32_11_0, Act.put, List.setIfInBounds_toArray, List.set_cons_zero, List.set_cons_succ])
          refine AnyL_take (i := 1) (oi := oq32_11_1) (v := ?_) rfl (by kernel_rfl) (by kernel_rfl) (by kernel_rfl) (by kernel_rfl) (fun _ _ _ h => h) (Or.inl ⟨by rfl, ?_⟩) (by assumption) ?_
          rotate_left
          · (delta oq32_11_1; intro ws hSw; (try dsimp only at hSw); (try go_simp); (try with_reducible rfl))
          (try simp only [oq32_11_1, Act.put, List.setIfInBounds_toArray, List.set_cons_zero, List.set_cons_succ])
          refine AnyL_take (i := 2) (oi := oq32_11_2) (v := ?_) rfl (by kernel_rfl) (by kernel_rfl) (by kernel_rfl) (by kernel_rfl) (fun _ _ _ h => h) (Or.inl ⟨by rfl, ?_⟩) (by assumption) ?_
          rotate_left
          · (delta oq32_11_2; intro ws hSw; (try dsimp only at hSw); (try go_simp); (try with_reducible rfl))
          (try simp only [oq32_11_2, Act.put, List.setIfInBounds_toArray, List.set_cons_zero, List.set_cons_succ])
          refine AnyL_take (i := 3) (oi := oq32_11_3) (v := ?_) rfl (by kernel_rfl) (by kernel_rfl) (by kernel_rfl) (by kernel_rfl) (fun _ _ _ h => h) (Or.inl ⟨by rfl, ?_⟩) (by assumption) ?_
          rotate_left
          · (delta oq32_11_3; intro ws hSw; (try dsimp only at hSw); (try go_simp); (try with_reducible rfl))
          (try simp only [oq32_11_3, Act.put, List.setIfInBounds_toArray, List.set_cons_zero, List.set_cons_succ])
          refine AnyL_take (i := 5) (oi := oq32_11_5) (v := ?_) rfl (by kernel_rfl) (by kernel_rfl) (by kernel_rfl) (by kernel_rfl) (fun _ _ _ h => h) (Or.inl ⟨by rfl, ?_⟩) (by assumption) ?_
          rotate_left
          · (delta oq32_11_5; intro ws hSw; (try dsimp only at hSw); (try go_simp); (try with_reducible rfl))
          (try simp only [oq32_11_5, Act.put, List.setIfInBounds_toArray, List.set_cons_zero, List.set_cons_succ])
          refine AnyL_ready (rs := [4]) (by kernel_rfl) (by simp) ?_
          refine ReadyL.cons (o := oq32_11_4) rfl (fun K hK => ?_) ReadyL.nil
          delta oq32_11_4
          go_simp
          have hc := power_any b k V1 hb he7
          refine hc.mono ?_
          clear hc
          rintro e1 w' ⟨rfl, rfl⟩
          refine hK.out _ _ hHeld (fun hHeld2 => ?_)
          clear hK K hHeld
          have hHeld := hHeld2
          clear hHeld2
          (try simp only [oq32_11_4, Act.put, List.setIfInBounds_toArray, List.set_cons_zero, List.set_cons_succ])
          refine AnyL_ready (rs := [6]) (by kernel_rfl) (by simp) ?_
          refine ReadyL.cons (o := oq32_11_6) rfl (fun K hK => ?_) ReadyL.nil
          delta oq32_11_6
          go_simp
          have hc := extended_any D d S (b ^ k) X w' XN.num h64 hpow hX1
          rw [HT.out] at hc
          refine hc.mono ?_
          clear hc
          rintro e1 V2 ⟨v, rfl, hv, hb2⟩
          replace XN := XN.below hb2
          replace b0 := b0.below hb2 b0.lt
          replace b1 := b1.below hb2 b1.lt
          replace b2 := b2.below hb2 b2.lt
          obtain ⟨D2, d2, rfl, ho⟩ := hv
          have O2 := ho.weak (b := w.heap.size) h1.size
          clear ho
          replace KF := KF.trans (keepsFrom_below hb2 _)
          replace KP := KP.trans (kp2_below hb2 (by omega) (by omega))
          replace hbig := Nat.lt_of_lt_of_le hbig hb2.size
          replace h1 := h1.trans (hb2.mono h1.size)
          have kN := XN.cell
          have k0 := b0.cell0
          clear hb2
          refine hK.out _ _ ⟨kN, k0⟩ (fun hHeld2 => ?_)
          clear hK K hHeld kN k0
          have hHeld := hHeld2
          clear hHeld2
          (try simp only [oq32_11_6, Act.put, List.setIfInBounds_toArray, List.set_cons_zero, List.set_cons_succ])
          refine AnyL_take (i := 7) (oi := oq32_11_7) (v := ?_) rfl (by kernel_rfl) (by kernel_rfl) (by kernel_rfl) (by kernel_rfl) (fun _ _ _ h => h) (Or.inl ⟨by rfl, ?_⟩) (by assumption) ?_
          rotate_left
          · (delta oq32_11_7; intro ws hSw; (try dsimp only at hSw); (try go_simp); (try with_reducible rfl))
          (try simp only [oq32_11_7, Act.put, List.setIfInBounds_toArray, List.set_cons_zero, List.set_cons_succ])
          refine AnyL_take (i := 8) (oi := oq32_11_8) (v := ?_) rfl (by kernel_rfl) (by kernel_rfl) (by kernel_rfl) (by kernel_rfl) (fun _ _ _ h => h) (Or.inl ⟨by rfl, ?_⟩) (by assumption) ?_
          rotate_left
          · (delta oq32_11_8; intro ws hSw; (try dsimp only at hSw); (try go_simp); (try with_reducible rfl))
          (try simp only [oq32_11_8, Act.put, List.setIfInBounds_toArray, List.set_cons_zero, List.set_cons_succ])
          refine AnyL_ready (rs := [9, 10]) (by kernel_rfl) (by simp) ?_
          refine ReadyL.cons (o := oq32_11_9) rfl (fun K hK => ?_) ?_
          · delta oq32_11_9
            go_simp
            refine hK.out _ _ hHeld (fun hHeld2 => ?_)
            clear hK K hHeld2
            (try simp only [oq32_11_9, Act.put, List.setIfInBounds_toArray, List.set_cons_zero, List.set_cons_succ])
            refine AnyL_ready (rs := [10]) (by kernel_rfl) (by simp) ?_
            refine ReadyL.late (o := oq32_11_10) rfl (by rfl) (fun K hK => ?_) ReadyL.nil
            delta oq32_11_10
            have fz := XN.1.frozen 0
            have cz := XN.cell
            have lz := XN.lt
            go_simp
            have O2' := O2.box (p := ⟨w.heap.size + 1 + 1 + 1, 0, none⟩) XN.1 (by decide) (.slice D2 (nw r.1) d2)
            replace XN := XN.set_ (A' := D2) (n' := nw r.1) (c' := d2) (a' := r.1) (.inr O2)
            replace b0 := b0.far (p := ⟨w.heap.size + 1 + 1 + 1, 0, none⟩) (by show w.heap.size ≠ w.heap.size + 1 + 1 + 1; omega) (.slice D2 (nw r.1) d2)
            replace b1 := b1.far (p := ⟨w.heap.size + 1 + 1 + 1, 0, none⟩) (by show w.heap.size + 1 ≠ w.heap.size + 1 + 1 + 1; omega) (.slice D2 (nw r.1) d2)
            replace b2 := b2.far (p := ⟨w.heap.size + 1 + 1 + 1, 0, none⟩) (by show w.heap.size + 1 + 1 ≠ w.heap.size + 1 + 1 + 1; omega) (.slice D2 (nw r.1) d2)
            replace KF := KF.trans ((KeepsOthers.setCell V2 ⟨w.heap.size + 1 + 1 + 1, 0, none⟩ (.slice D2 (nw r.1) d2)).from _)
            replace KP := KP.trans (kp2_set V2 (p := ⟨w.heap.size + 1 + 1 + 1, 0, none⟩) (.slice D2 (nw r.1) d2) (by show w.heap.size + 1 + 1 + 1 + 1 ≠ w.heap.size + 1 + 1 + 1; omega) (by show w.heap.size + 1 + 1 + 1 + 1 + 1 ≠ w.heap.size + 1 + 1 + 1; omega))
            replace h1 := h1.setCell (p := ⟨w.heap.size + 1 + 1 + 1, 0, none⟩) (by simp <;> omega) (.slice D2 (nw r.1) d2)
            refine hK.out _ _ trivial (fun hHeld2 => ?_)
            clear hK K hHeld2 hHeld
            (try simp only [oq32_11_10, Act.put, List.setIfInBounds_toArray, List.set_cons_zero, List.set_cons_succ])
            replace hbig : w.heap.size + 1 + 1 + 1 + 1 + 1 < (V2.setCell ⟨w.heap.size + 1 + 1 + 1, 0, none⟩ (.slice D2 (nw r.1) d2)).heap.size := by simpa [World.setCell] using hbig
            generalize hV : V2.setCell ⟨w.heap.size + 1 + 1 + 1, 0, none⟩ (.slice D2 (nw r.1) d2) = V3 at h1 XN b0 b1 b2 KF KP hbig O2' ⊢
            clear hV fz cz lz O2
            refine AnyL_ready (rs := [11]) (by kernel_rfl) (by simp) ?_
            refine ReadyL.late (o := oq32_11_11) rfl (by rfl) (fun K hK => ?_) ReadyL.nil
            delta oq32_11_11
            go_simp
            refine hK.out _ _ trivial (fun hHeld2 => ?_)
            clear hK K hHeld2
            (try simp only [oq32_11_11, Act.put, List.setIfInBounds_toArray, List.set_cons_zero, List.set_cons_succ])
            refine AnyL_done (by kernel_rfl) ?_ _
            refine NoPanic.normal ?_
            exact ⟨rfl, D2, d2, rfl, h1, b0, b1, b2, XN, KF, KP, hbig, O2'⟩
          refine ReadyL.late (o := oq32_11_10) rfl (by rfl) (fun K hK => ?_) ReadyL.nil
          · delta oq32_11_10
            have fz := XN.1.frozen 0
            have cz := XN.cell
            have lz := XN.lt
            go_simp
            have O2' := O2.box (p := ⟨w.heap.size + 1 + 1 + 1, 0, none⟩) XN.1 (by decide) (.slice D2 (nw r.1) d2)
            replace XN := XN.set_ (A' := D2) (n' := nw r.1) (c' := d2) (a' := r.1) (.inr O2)
            replace b0 := b0.far (p := ⟨w.heap.size + 1 + 1 + 1, 0, none⟩) (by show w.heap.size ≠ w.heap.size + 1 + 1 + 1; omega) (.slice D2 (nw r.1) d2)
            replace b1 := b1.far (p := ⟨w.heap.size + 1 + 1 + 1, 0, none⟩) (by show w.heap.size + 1 ≠ w.heap.size + 1 + 1 + 1; omega) (.slice D2 (nw r.1) d2)
            replace b2 := b2.far (p := ⟨w.heap.size + 1 + 1 + 1, 0, none⟩) (by show w.heap.size + 1 + 1 ≠ w.heap.size + 1 + 1 + 1; omega) (.slice D2 (nw r.1) d2)
            replace KF := KF.trans ((KeepsOthers.setCell V2 ⟨w.heap.size + 1 + 1 + 1, 0, none⟩ (.slice D2 (nw r.1) d2)).from _)
            replace KP := KP.trans (kp2_set V2 (p := ⟨w.heap.size + 1 + 1 + 1, 0, none⟩) (.slice D2 (nw r.1) d2) (by show w.heap.size + 1 + 1 + 1 + 1 ≠ w.heap.size + 1 + 1 + 1; omega) (by show w.heap.size + 1 + 1 + 1 + 1 + 1 ≠ w.heap.size + 1 + 1 + 1; omega))
            replace h1 := h1.setCell (p := ⟨w.heap.size + 1 + 1 + 1, 0, none⟩) (by simp <;> omega) (.slice D2 (nw r.1) d2)
            refine hK.out _ _ trivial (fun hHeld2 => ?_)
            clear hK K hHeld2 hHeld
            (try simp only [oq32_11_10, Act.put, List.setIfInBounds_toArray, List.set_cons_zero, List.set_cons_succ])
            replace hbig : w.heap.size + 1 + 1 + 1 + 1 + 1 < (V2.setCell ⟨w.heap.size + 1 + 1 + 1, 0, none⟩ (.slice D2 (nw r.1) d2)).heap.size := by simpa [World.setCell] using hbig
            generalize hV : V2.setCell ⟨w.heap.size + 1 + 1 + 1, 0, none⟩ (.slice D2 (nw r.1) d2) = V3 at h1 XN b0 b1 b2 KF KP hbig O2' ⊢
            clear hV fz cz lz O2
            refine AnyL_ready (rs := [9]) (by kernel_rfl) (by simp) ?_
            refine ReadyL.late (o := oq32_11_9) rfl (by rfl) (fun K hK => ?_) ReadyL.nil
            delta oq32_11_9
            go_simp
            refine hK.out _ _ trivial (fun hHeld2 => ?_)
            clear hK K hHeld2
            (try simp only [oq32_11_9, Act.put, List.setIfInBounds_toArray, List.set_cons_zero, List.set_cons_succ])
            refine AnyL_ready (rs := [11]) (by kernel_rfl) (by simp) ?_
            refine ReadyL.late (o := oq32_11_11) rfl (by rfl) (fun K hK => ?_) ReadyL.nil
            delta oq32_11_11
            go_simp
            refine hK.out _ _ trivial (fun hHeld2 => ?_)
            clear hK K hHeld2
            (try simp only [oq32_11_11, Act.put, List.setIfInBounds_toArray, List.set_cons_zero, List.set_cons_succ])
            refine AnyL_done (by kernel_rfl) ?_ _
            refine NoPanic.normal ?_
            exact ⟨rfl, D2, d2, rfl, h1, b0, b1, b2, XN, KF, KP, hbig, O2'⟩
        rintro D2 d2 V3 ⟨h1, b0, b1, b2, XN, KF, KP, hbig, OO⟩
        -- END REGION
        by_cases hq : nw (FN b l (pre ++ [x])) ≤ 64
        · have hr : r = (FN b l (pre ++ [x]), 0) := by rw [HR.out, limS_ok hq]
          subst hr
          have l3 : decide ((0 : Int) = 0) = true := rfl
          have kN := XN.cell
          have zN := XN.lt
          have HQ := hid hq
          clear hq
          gi_wp2
          exact ⟨KF, KP, D2, d2, h1, b0, b1, b2, XN, HQ.out, hbig, OO⟩
        · have hr : r = (0, 9) := by rw [HR.out, limS_big hq]
          subst hr
          have k1 := b1.cell0
          have z1 := b1.lt
          have f1 := b1.frozen 0
          have k2 := b2.cell0
          have z2 := b2.lt
          have f2 := b2.frozen 0
          have HQ : Hid (¬ nw (FN b l (pre ++ [x])) ≤ 64) := hq
          clear hq
          gi_wp2
          have g1 := (b1.set_ 0 (.slice none 0 0)).far (p := ⟨w.heap.size + 1 + 1, 0, none⟩) (by show w.heap.size + 1 ≠ w.heap.size + 1 + 1; omega) (.int .i64 9)
          have g2 := (b2.far (p := ⟨w.heap.size + 1, 0, none⟩) (by show w.heap.size + 1 + 1 ≠ w.heap.size + 1; omega) (.slice none 0 0)).set_ 0 (.int .i64 9)
          exact ⟨KF.trans (((KeepsOthers.setCell _ _ _).trans (KeepsOthers.setCell _ _ _)).from _), rfl, HQ.out, (h1.setCell (by simp) _).setCell (by simp <;> omega) _, g1, g2⟩
  case done =>
    rintro E ys W hE rfl ⟨D, d, h1, b0, b1, b2, XN, h64, hbig, O3⟩ hK
    have hF : FN b l (List.range (chN n)) = vb b l := by rw [← HL.out]; exact FN_all b l
    rw [hF] at XN h64 O3
    have HX := hid (limS_ok h64)
    rw [HX.out]
    clear hF
    have kN := XN.cell
    have zN := XN.lt
    have k1 := b1.cell0
    have z1 := b1.lt
    have f1 := b1.frozen 0
    have k2 := b2.cell0
    have z2 := b2.lt
    have f2 := b2.frozen 0
    gi_wp2
    have g1 := (b1.set_ 0 (.slice D (nw (vb b l)) d)).far (p := ⟨w.heap.size + 1 + 1, 0, none⟩) (by show w.heap.size + 1 ≠ w.heap.size + 1 + 1; omega) (.int .i64 0)
    have g2 := (b2.far (p := ⟨w.heap.size + 1, 0, none⟩) (by show w.heap.size + 1 + 1 ≠ w.heap.size + 1; omega) (.slice D (nw (vb b l)) d)).set_ 0 (.int .i64 0)
    have O4 := (O3.box (p := ⟨w.heap.size + 1, 0, none⟩) b1 (by decide) (.slice D (nw (vb b l)) d)).box (p := ⟨w.heap.size + 1 + 1, 0, none⟩) (b2.far (p := ⟨w.heap.size + 1, 0, none⟩) (by show w.heap.size + 1 + 1 ≠ w.heap.size + 1; omega) (.slice D (nw (vb b l)) d)) (by decide) (.int .i64 0)
    have hb4 := (h1.setCell (p := ⟨w.heap.size + 1, 0, none⟩) (by simp) (.slice D (nw (vb b l)) d)).setCell (p := ⟨w.heap.size + 1 + 1, 0, none⟩) (by simp <;> omega) (.int .i64 0)
    have hK2 := ((KeepsOthers.setCell W ⟨w.heap.size + 1, 0, none⟩ (.slice D (nw (vb b l)) d)).trans (KeepsOthers.setCell (W.setCell ⟨w.heap.size + 1, 0, none⟩ (.slice D (nw (vb b l)) d)) ⟨w.heap.size + 1 + 1, 0, none⟩ (.int .i64 0))).same E _ hK rfl
    generalize hV : (W.setCell ⟨w.heap.size + 1, 0, none⟩ (.slice D (nw (vb b l)) d)).setCell ⟨w.heap.size + 1 + 1, 0, none⟩ (.int .i64 0) = W2 at g1 g2 O4 hb4 hK2 ⊢
    clear hV
    have G := grownBy_putObj' W2 E (.deferred none)
    have q : ∀ r, some E = some r → ∃ o : Obj, W2.heap[r]? = some o ∧ o.isCells = false := fun r e => by cases e; exact ⟨_, hK2, rfl⟩
    replace g1 := g1.cells G q
    replace g2 := g2.cells G q
    replace O4 := O4.cells G q
    replace hb4 := hb4.grown G hb4.size (fun r e => by cases e; omega)
    have k1 := g1.cell0
    have z1 := g1.lt
    have k2 := g2.cell0
    have z2 := g2.lt
    refine ⟨by simp, .inl ⟨_, _, rfl, run_takeDeferred hK2, ?_⟩⟩
    exact ⟨.tuple #[.agg #[.slice D (nw (vb b l)) d], .int .i64 0], (by simp [results, Try.results32, go_sem, k1, z1, k2, z2]), (by show RetTwo _ _ _ _ _ _; rw [HX.out]; exact ⟨_, rfl, ⟨D, d, rfl, O4⟩, hb4⟩)⟩
  case stop =>
    rintro E c' pre W hE ⟨k, hk, rfl⟩ ⟨rfl, hq, h1, b1, b2⟩ hK
    have HX : Hid (limS (vb b l) = (0, 9)) := limS_big (fun h => hq (Nat.le_trans (nw_mono (FN_part hb0 l k)) h))
    rw [HX.out]
    gi_wp2
    have G := grownBy_putObj' W E (.deferred none)
    have q : ∀ r, some E = some r → ∃ o : Obj, W.heap[r]? = some o ∧ o.isCells = false := fun r e => by cases e; exact ⟨_, hK, rfl⟩
    replace b1 := b1.cells G q
    replace b2 := b2.cells G q
    have hb4 := h1.grown G h1.size (fun r e => by cases e; omega)
    have k1 := b1.cell0
    have z1 := b1.lt
    have k2 := b2.cell0
    have z2 := b2.lt
    refine ⟨by simp, .inl ⟨_, _, rfl, run_takeDeferred hK, ?_⟩⟩
    exact ⟨.tuple #[.agg #[.slice none 0 0], .int .i64 9], (by simp [results, Try.results32, go_sem, k1, z1, k2, z2]), ⟨_, rfl, NatV.nil _ _, hb4⟩⟩
end Go.Proofs.Ytohiimpjcgcaiaa
