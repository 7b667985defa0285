/- natmod: the extended algorithm of Euclid, plain; the variables of euclid. -/
import Derived.Test.YtckajjapockonaaMod2
set_option linter.unusedVariables false
set_option linter.unusedSimpArgs false
namespace Go.Proofs.Ytckajjapockonaa
open Go.RowKit

/-- What the extended algorithm keeps. -/
def sgn (g : Bool) (x : Nat) : Int := if g = true then -(x : Int) else (x : Int)
def EInv (a m d r x y : Nat) (g : Bool) : Prop :=
  r < d ∧ x < m ∧ x ≤ y ∧ r * x + d * y = m ∧ Nat.gcd d r = Nat.gcd m a ∧ (m : Int) ∣ (a : Int) * sgn g x - (d : Int) ∧ (m : Int) ∣ (a : Int) * sgn (!g) y - (r : Int)
theorem sgn_step (g : Bool) (q x y : Nat) : sgn g (x + q * y) = sgn g x - (q : Int) * sgn (!g) y := by
  unfold sgn
  have e : ((x + q * y : Nat) : Int) = (x : Int) + (q : Int) * (y : Int) := by rw [Int.natCast_add, Int.natCast_mul]
  rw [e]
  cases g
  · simp only [Bool.not_false, if_true, Bool.false_eq_true, if_false, Int.mul_neg]
    generalize (q : Int) * (y : Int) = z
    omega
  · simp only [Bool.not_true, if_true, Bool.false_eq_true, if_false]
    generalize (q : Int) * (y : Int) = z
    omega
theorem EInv.start {a m : Nat} (h : a < m) : EInv a m m a 0 1 true :=
  ⟨h, by omega, by omega, by omega, rfl, ⟨-1, by simp [sgn]⟩, ⟨0, by simp [sgn]⟩⟩
theorem EInv.step {a m d r x y : Nat} {g : Bool} (h : EInv a m d r x y g) (hr : r ≠ 0) : EInv a m r (d % r) y (x + d / r * y) (!g) := by
  obtain ⟨h1, h2, h3, h4, h5, h6, h7⟩ := h
  have hd := Nat.div_add_mod d r
  have hl := Nat.mod_lt d (Nat.pos_of_ne_zero hr)
  have hq : 1 ≤ d / r := (Nat.one_le_div_iff (Nat.pos_of_ne_zero hr)).2 (Nat.le_of_lt h1)
  refine ⟨hl, ?_, ?_, ?_, ?_, h7, ?_⟩
  · have h8 : 2 * y ≤ d * y := Nat.mul_le_mul_right y (by omega)
    have h9 : 0 ≤ r * x := Nat.zero_le _
    omega
  · have := Nat.mul_le_mul_right y hq
    omega
  · rw [Nat.mul_add]
    have e : d % r * y + (r * x + r * (d / r * y)) = r * x + (r * (d / r) + d % r) * y := by
      rw [Nat.add_mul, Nat.mul_assoc]; omega
    rw [e, hd]; exact h4
  · rw [← h5, Nat.gcd_comm r (d % r), ← Nat.gcd_rec, Nat.gcd_comm]
  · obtain ⟨u, hu⟩ := h6
    obtain ⟨v, hv⟩ := h7
    refine ⟨u - (d / r : Nat) * v, ?_⟩
    have e1 : ((d % r : Nat) : Int) = (d : Int) - (r : Int) * ((d / r : Nat) : Int) := by
      have : ((r * (d / r) + d % r : Nat) : Int) = (d : Int) := by rw [hd]
      rw [Int.natCast_add, Int.natCast_mul] at this
      omega
    rw [e1, Bool.not_not, Int.mul_sub, ← hu]
    have e2 : (m : Int) * (((d / r : Nat) : Int) * v) = ((d / r : Nat) : Int) * ((m : Int) * v) := Int.mul_left_comm _ _ _
    rw [e2, ← hv]
    have e3 := sgn_step g (d / r) x y
    rw [e3, Int.mul_sub, Int.mul_sub]
    have e4 : (a : Int) * (((d / r : Nat) : Int) * sgn (!g) y) = ((d / r : Nat) : Int) * ((a : Int) * sgn (!g) y) := Int.mul_left_comm _ _ _
    rw [e4, Int.mul_comm (r : Int)]
    omega
theorem EInv.small {a m d r x y : Nat} {g : Bool} (h : EInv a m d r x y g) : y ≤ m ∧ d ≤ m ∨ y = 0 := by
  obtain ⟨h1, h2, h3, h4, h5, h6, h7⟩ := h
  rcases Nat.eq_zero_or_pos y with h8 | h8
  · exact .inr h8
  · have e1 := Nat.mul_le_mul_right y (show 1 ≤ d by omega)
    have e2 := Nat.mul_le_mul_left d (show 1 ≤ y by omega)
    exact .inl ⟨by omega, by omega⟩
theorem EInv.y0 {a m d r x y : Nat} {g : Bool} (h : EInv a m d r x y g) (hm : 0 < m) : 1 ≤ y := by
  obtain ⟨h1, h2, h3, h4, h5, h6, h7⟩ := h
  rcases Nat.eq_zero_or_pos y with h8 | h8
  · subst h8
    obtain rfl : x = 0 := by omega
    simp at h4
    omega
  · exact h8
theorem EInv.bounds {a m d r x y : Nat} {g : Bool} (h : EInv a m d r x y g) (hm : 0 < m) : x < m ∧ y ≤ m ∧ d ≤ m ∧ r < m := by
  have h0 := h.y0 hm
  have h1 := h.small
  have h2 := h.1
  have h3 := h.2.1
  omega
/-- What euclid finds: a residue x with a x = gcd modulo m. -/
def xfin (m x : Nat) (g : Bool) : Nat := if g = true then (0 + (m - x)) % m else x
theorem EInv.fin {a m d x y : Nat} {g : Bool} (h : EInv a m d 0 x y g) (hm : 0 < m) : d = Nat.gcd a m ∧ xfin m x g < m ∧ (m : Int) ∣ (a : Int) * (xfin m x g : Nat) - (d : Int) := by
  obtain ⟨h1, h2, h3, h4, h5, h6, h7⟩ := h
  refine ⟨by rw [Nat.gcd_comm a m, ← h5, Nat.gcd_zero_right], ?_, ?_⟩
  · unfold xfin; split
    · exact Nat.mod_lt _ hm
    · exact h2
  · unfold xfin
    cases g
    · simpa [sgn] using h6
    · simp only [if_true, Nat.zero_add]
      obtain ⟨u, hu⟩ := h6
      have e := Nat.div_add_mod (m - x) m
      have e1 : (((m - x) % m : Nat) : Int) = (m : Int) - (x : Int) - (m : Int) * (((m - x) / m : Nat) : Int) := by
        have : ((m * ((m - x) / m) + (m - x) % m : Nat) : Int) = ((m - x : Nat) : Int) := by rw [e]
        rw [Int.natCast_add, Int.natCast_mul, Int.ofNat_sub (Nat.le_of_lt h2)] at this
        omega
      refine ⟨u + (a : Int) - (a : Int) * (((m - x) / m : Nat) : Int), ?_⟩
      rw [e1]
      simp only [sgn, if_true] at hu
      rw [Int.mul_sub (m : Int), Int.mul_add (m : Int), ← hu, Int.mul_sub, Int.mul_sub, Int.mul_neg]
      have e2 : (m : Int) * ((a : Int) * (((m - x) / m : Nat) : Int)) = (a : Int) * ((m : Int) * (((m - x) / m : Nat) : Int)) := Int.mul_left_comm _ _ _
      rw [e2, Int.mul_comm (m : Int) (a : Int)]
      omega

/-- A slice of words that no store into a variable touches: an argument's, or the call's own. -/
def Val (B0 : Nat) (wr : World) (A : Option Addr) (n c a : Nat) : Prop := Num wr B0 A n a ∨ Own wr B0 A n c a
section
variable {wr w' : World} {A : Option Addr} {B0 n c a : Nat}
theorem Val.num (h : Val B0 wr A n c a) (hs : B0 ≤ wr.heap.size) : Num wr wr.heap.size A n a := by
  rcases h with h | h
  · exact h.more hs
  · exact h.num
theorem Val.below (h : Val B0 wr A n c a) (hb : Below wr.heap.size wr w') (hs : B0 ≤ wr.heap.size) : Val B0 w' A n c a := by
  rcases h with h | h
  · exact .inl (h.below (hb.mono hs))
  · exact .inr (h.below hb (Nat.le_refl _))
theorem Val.box (h : Val B0 wr A n c a) {p : Addr} {cs : Array Value} (hp : Blk wr p.block 24 cs) (hg : B0 ≤ p.block) (u : Value) : Val B0 (wr.setCell p u) A n c a := by
  rcases h with h | h
  · exact .inl (h.setCell hg u)
  · exact .inr (h.box hp (by decide) u)
end
/-- The number that a variable holds. -/
noncomputable def numAt (w : World) (g : Nat) : Nat := by
  classical
  exact if h : ∃ a A n c, w.cell? ⟨g, 0, none⟩ = some (.slice A n c) ∧ Num w w.heap.size A n a then Classical.choose h else 0
theorem numAt_eq {w : World} {g n c a : Nat} {A : Option Addr} (h1 : w.cell? ⟨g, 0, none⟩ = some (.slice A n c)) (h2 : Num w w.heap.size A n a) : numAt w g = a := by
  classical
  unfold numAt
  have h : ∃ a A n c, w.cell? ⟨g, 0, none⟩ = some (.slice A n c) ∧ Num w w.heap.size A n a := ⟨a, A, n, c, h1, h2⟩
  rw [dif_pos h]
  obtain ⟨A', n', c', h3, h4⟩ := Classical.choose_spec h
  rw [h1] at h3
  injection h3 with h3
  injection h3 with e1 e2 e3
  subst e1 e2
  refine dig_ext h4.lt h2.lt (fun i hi => ?_)
  obtain ⟨ad, e, _, hc⟩ := h4.at_ hi
  obtain ⟨ad', e', _, hc'⟩ := h2.at_ hi
  rw [e] at e'
  injection e' with e'
  subst e'
  rw [hc] at hc'
  injection hc' with hc'
  injection hc' with _ hc'
  omega

/-- The variables of euclid. -/
def EMid (B0 : Nat) (w wr : World) (A B' : Option Addr) (n m' c p gy d r x y : Nat) (D R X Y : Option Addr) (dc rc xc yc : Nat) : Prop :=
  (B0 ≤ w.heap.size ∧ w.heap.size + 5 ≤ gy) ∧ Below w.heap.size w wr ∧ Blk wr w.heap.size 24 #[.slice A n c] ∧ Blk wr (w.heap.size + 1) 24 #[.slice B' m' p] ∧
  Blk wr (w.heap.size + 1 + 1) 24 #[.slice D (nw d) dc] ∧ Blk wr (w.heap.size + 1 + 1 + 1) 24 #[.slice X (nw x) xc] ∧ Blk wr (w.heap.size + 1 + 1 + 1 + 1) 24 #[.slice R (nw r) rc] ∧ Blk wr gy 24 #[.slice Y (nw y) yc] ∧
  Val B0 wr D (nw d) dc d ∧ Val B0 wr R (nw r) rc r ∧ Own wr w.heap.size X (nw x) xc x ∧ Own wr w.heap.size Y (nw y) yc y
section
variable {w wr w' : World} {A B' D R X Y D' R' X' Y' : Option Addr} {B0 n m' c p gy d r x y dc rc xc yc d' r' x' y' dc' rc' xc' yc' : Nat}
theorem EMid.below (h : EMid B0 w wr A B' n m' c p gy d r x y D R X Y dc rc xc yc) (hb : Below wr.heap.size wr w') : EMid B0 w w' A B' n m' c p gy d r x y D R X Y dc rc xc yc := by
  obtain ⟨h0, h1, h2, h3, h4, h5, h6, h7, h8, h9, h10, h11⟩ := h
  exact ⟨h0, h1.trans (hb.mono h1.size), h2.below hb h2.lt, h3.below hb h3.lt, h4.below hb h4.lt, h5.below hb h5.lt, h6.below hb h6.lt, h7.below hb h7.lt, h8.below hb (by have := h1.size; omega), h9.below hb (by have := h1.size; omega), h10.below hb (Nat.le_refl _), h11.below hb (Nat.le_refl _)⟩
theorem EMid.drew (h : EMid B0 w wr A B' n m' c p gy d r x y D R X Y dc rc xc yc) : EMid B0 w wr.drew A B' n m' c p gy d r x y D R X Y dc rc xc yc := by
  obtain ⟨h0, h1, h2, h3, h4, h5, h6, h7, h8, h9, h10, h11⟩ := h
  exact ⟨h0, h1.drew, h2, h3, h4, h5, h6, h7, h8, h9, h10, h11⟩
theorem EMid.setD (h : EMid B0 w wr A B' n m' c p gy d r x y D R X Y dc rc xc yc) (hv : Val B0 wr D' (nw d') dc' d') : EMid B0 w (wr.setCell ⟨w.heap.size + 1 + 1, 0, none⟩ (.slice D' (nw d') dc')) A B' n m' c p gy d' r x y D' R X Y dc' rc xc yc := by
  obtain ⟨h0, h1, h2, h3, h4, h5, h6, h7, h8, h9, h10, h11⟩ := h
  exact ⟨h0, h1.setCell (by simp <;> omega) _, h2.far (by simp <;> omega) _, h3.far (by simp <;> omega) _, h4.set_ 0 _, h5.far (by simp <;> omega) _, h6.far (by simp <;> omega) _, h7.far (by simp <;> omega) _, hv.box (p := ⟨w.heap.size + 1 + 1, 0, none⟩) h4 (by simp <;> omega) _, h9.box (p := ⟨w.heap.size + 1 + 1, 0, none⟩) h4 (by simp <;> omega) _, h10.box (p := ⟨w.heap.size + 1 + 1, 0, none⟩) h4 (by decide) _, h11.box (p := ⟨w.heap.size + 1 + 1, 0, none⟩) h4 (by decide) _⟩
theorem EMid.setX (h : EMid B0 w wr A B' n m' c p gy d r x y D R X Y dc rc xc yc) (hv : Own wr w.heap.size X' (nw x') xc' x') : EMid B0 w (wr.setCell ⟨w.heap.size + 1 + 1 + 1, 0, none⟩ (.slice X' (nw x') xc')) A B' n m' c p gy d r x' y D R X' Y dc rc xc' yc := by
  obtain ⟨h0, h1, h2, h3, h4, h5, h6, h7, h8, h9, h10, h11⟩ := h
  exact ⟨h0, h1.setCell (by simp <;> omega) _, h2.far (by simp <;> omega) _, h3.far (by simp <;> omega) _, h4.far (by simp <;> omega) _, h5.set_ 0 _, h6.far (by simp <;> omega) _, h7.far (by simp <;> omega) _, h8.box (p := ⟨w.heap.size + 1 + 1 + 1, 0, none⟩) h5 (by simp <;> omega) _, h9.box (p := ⟨w.heap.size + 1 + 1 + 1, 0, none⟩) h5 (by simp <;> omega) _, hv.box (p := ⟨w.heap.size + 1 + 1 + 1, 0, none⟩) h5 (by decide) _, h11.box (p := ⟨w.heap.size + 1 + 1 + 1, 0, none⟩) h5 (by decide) _⟩
theorem EMid.setR (h : EMid B0 w wr A B' n m' c p gy d r x y D R X Y dc rc xc yc) (hv : Val B0 wr R' (nw r') rc' r') : EMid B0 w (wr.setCell ⟨w.heap.size + 1 + 1 + 1 + 1, 0, none⟩ (.slice R' (nw r') rc')) A B' n m' c p gy d r' x y D R' X Y dc rc' xc yc := by
  obtain ⟨h0, h1, h2, h3, h4, h5, h6, h7, h8, h9, h10, h11⟩ := h
  exact ⟨h0, h1.setCell (by simp <;> omega) _, h2.far (by simp <;> omega) _, h3.far (by simp <;> omega) _, h4.far (by simp <;> omega) _, h5.far (by simp <;> omega) _, h6.set_ 0 _, h7.far (by simp <;> omega) _, h8.box (p := ⟨w.heap.size + 1 + 1 + 1 + 1, 0, none⟩) h6 (by simp <;> omega) _, hv.box (p := ⟨w.heap.size + 1 + 1 + 1 + 1, 0, none⟩) h6 (by simp <;> omega) _, h10.box (p := ⟨w.heap.size + 1 + 1 + 1 + 1, 0, none⟩) h6 (by decide) _, h11.box (p := ⟨w.heap.size + 1 + 1 + 1 + 1, 0, none⟩) h6 (by decide) _⟩
theorem EMid.setY (h : EMid B0 w wr A B' n m' c p gy d r x y D R X Y dc rc xc yc) (hv : Own wr w.heap.size Y' (nw y') yc' y') : EMid B0 w (wr.setCell ⟨gy, 0, none⟩ (.slice Y' (nw y') yc')) A B' n m' c p gy d r x y' D R X Y' dc rc xc yc' := by
  obtain ⟨h0, h1, h2, h3, h4, h5, h6, h7, h8, h9, h10, h11⟩ := h
  exact ⟨h0, h1.setCell (by simp <;> omega) _, h2.far (by simp <;> omega) _, h3.far (by simp <;> omega) _, h4.far (by simp <;> omega) _, h5.far (by simp <;> omega) _, h6.far (by simp <;> omega) _, h7.set_ 0 _, h8.box (p := ⟨gy, 0, none⟩) h7 (by simp <;> omega) _, h9.box (p := ⟨gy, 0, none⟩) h7 (by simp <;> omega) _, h10.box (p := ⟨gy, 0, none⟩) h7 (by decide) _, hv.box (p := ⟨gy, 0, none⟩) h7 (by decide) _⟩
theorem EMid.bl (h : EMid B0 w wr A B' n m' c p gy d r x y D R X Y dc rc xc yc) : Below w.heap.size w wr := h.2.1
theorem EMid.cB (h : EMid B0 w wr A B' n m' c p gy d r x y D R X Y dc rc xc yc) : wr.cell? ⟨w.heap.size + 1, 0, none⟩ = some (.slice B' m' p) := h.2.2.2.1.cell0
theorem EMid.cD (h : EMid B0 w wr A B' n m' c p gy d r x y D R X Y dc rc xc yc) : wr.cell? ⟨w.heap.size + 1 + 1, 0, none⟩ = some (.slice D (nw d) dc) := h.2.2.2.2.1.cell0
theorem EMid.cX (h : EMid B0 w wr A B' n m' c p gy d r x y D R X Y dc rc xc yc) : wr.cell? ⟨w.heap.size + 1 + 1 + 1, 0, none⟩ = some (.slice X (nw x) xc) := h.2.2.2.2.2.1.cell0
theorem EMid.cR (h : EMid B0 w wr A B' n m' c p gy d r x y D R X Y dc rc xc yc) : wr.cell? ⟨w.heap.size + 1 + 1 + 1 + 1, 0, none⟩ = some (.slice R (nw r) rc) := h.2.2.2.2.2.2.1.cell0
theorem EMid.cY (h : EMid B0 w wr A B' n m' c p gy d r x y D R X Y dc rc xc yc) : wr.cell? ⟨gy, 0, none⟩ = some (.slice Y (nw y) yc) := h.2.2.2.2.2.2.2.1.cell0
theorem EMid.fD (h : EMid B0 w wr A B' n m' c p gy d r x y D R X Y dc rc xc yc) : wr.frozen? ⟨w.heap.size + 1 + 1, 0, none⟩ = false := h.2.2.2.2.1.frozen 0
theorem EMid.fX (h : EMid B0 w wr A B' n m' c p gy d r x y D R X Y dc rc xc yc) : wr.frozen? ⟨w.heap.size + 1 + 1 + 1, 0, none⟩ = false := h.2.2.2.2.2.1.frozen 0
theorem EMid.fR (h : EMid B0 w wr A B' n m' c p gy d r x y D R X Y dc rc xc yc) : wr.frozen? ⟨w.heap.size + 1 + 1 + 1 + 1, 0, none⟩ = false := h.2.2.2.2.2.2.1.frozen 0
theorem EMid.fY (h : EMid B0 w wr A B' n m' c p gy d r x y D R X Y dc rc xc yc) : wr.frozen? ⟨gy, 0, none⟩ = false := h.2.2.2.2.2.2.2.1.frozen 0
theorem EMid.nD (h : EMid B0 w wr A B' n m' c p gy d r x y D R X Y dc rc xc yc) : Num wr wr.heap.size D (nw d) d := h.2.2.2.2.2.2.2.2.1.num (Nat.le_trans h.1.1 h.2.1.size)
theorem EMid.nR (h : EMid B0 w wr A B' n m' c p gy d r x y D R X Y dc rc xc yc) : Num wr wr.heap.size R (nw r) r := h.2.2.2.2.2.2.2.2.2.1.num (Nat.le_trans h.1.1 h.2.1.size)
theorem EMid.vD (h : EMid B0 w wr A B' n m' c p gy d r x y D R X Y dc rc xc yc) : Val B0 wr D (nw d) dc d := h.2.2.2.2.2.2.2.2.1
theorem EMid.vR (h : EMid B0 w wr A B' n m' c p gy d r x y D R X Y dc rc xc yc) : Val B0 wr R (nw r) rc r := h.2.2.2.2.2.2.2.2.2.1
theorem EMid.oX (h : EMid B0 w wr A B' n m' c p gy d r x y D R X Y dc rc xc yc) : Own wr w.heap.size X (nw x) xc x := h.2.2.2.2.2.2.2.2.2.2.1
theorem EMid.oY (h : EMid B0 w wr A B' n m' c p gy d r x y D R X Y dc rc xc yc) : Own wr w.heap.size Y (nw y) yc y := h.2.2.2.2.2.2.2.2.2.2.2
theorem EMid.num {C' : Option Addr} {k z : Nat} (h : EMid B0 w wr A B' n m' c p gy d r x y D R X Y dc rc xc yc) (hA : Num w w.heap.size C' k z) : Num wr wr.heap.size C' k z := (hA.below h.bl).more h.bl.size
end

end Go.Proofs.Ytckajjapockonaa
