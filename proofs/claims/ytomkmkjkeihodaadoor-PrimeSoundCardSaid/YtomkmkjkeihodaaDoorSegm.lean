/- One step of the long division: words of a part of a block, less a multiple of the divisor. -/
import Derived.Test.YtomkmkjkeihodaaDoorShift
set_option linter.unusedVariables false
set_option linter.unusedSimpArgs false
namespace Go.Proofs.YtomkmkjkeihodaaDoor
open Go.RowKit

theorem only_drewN {a w : World} {row : Option Nat} (h : a.grownBy w row) (n : Nat) : a.grownBy (w.drewN n) row := ⟨h.os, h.tape, h.output, h.size, h.block⟩
theorem only_drew {a w : World} {row : Option Nat} (h : a.grownBy w row) : a.grownBy w.drew row := ⟨h.os, h.tape, h.output, h.size, h.block⟩
theorem only_setCell {a w : World} {g i : Nat} (h : a.grownBy w (some g)) (u : Value) : a.grownBy (w.setCell ⟨g, i, none⟩ u) (some g) :=
  ⟨h.os, h.tape, h.output, by simpa [World.setCell] using h.size, fun j hj hne => (Below.heap_setCell w ⟨g, i, none⟩ u j (by
    rintro rfl
    exact hne rfl)).trans (h.block j hj hne)⟩
theorem only_trans {a b c : World} {row : Option Nat} (h : a.grownBy b row) (k : b.grownBy c row) : a.grownBy c row :=
  ⟨k.os.trans h.os, k.tape.trans h.tape, k.output.trans h.output, Nat.le_trans h.size k.size, fun j hj hne => (k.block j (Nat.lt_of_lt_of_le hj h.size) hne).trans (h.block j hj hne)⟩

/-- The words of block g from place o on are those of s, n of them; those below are L. -/
def Segm (w : World) (g N o L n s : Nat) : Prop := L < 2 ^ (32 * o) ∧ s < 2 ^ (32 * n) ∧ o + n ≤ N ∧ Row w g N (s * 2 ^ (32 * o) + L)

theorem dig_seg {s o L i : Nat} (hL : L < 2 ^ (32 * o)) : dig (s * 2 ^ (32 * o) + L) (o + i) = dig s i := by
  unfold dig
  rw [pw_add, ← Nat.div_div_eq_div_mul, Nat.mul_comm s, Nat.mul_add_div (pw_pos o), Nat.div_eq_of_lt hL, Nat.add_zero]
theorem put_seg {s o L i x : Nat} (hL : L < 2 ^ (32 * o)) : put (s * 2 ^ (32 * o) + L) (o + i) x = put s i x * 2 ^ (32 * o) + L := by
  have h1 := put_add (s * 2 ^ (32 * o) + L) (o + i) x
  have h2 := put_add s i x
  rw [dig_seg hL, pw_add] at h1
  have h3 : (put s i x + dig s i * 2 ^ (32 * i)) * 2 ^ (32 * o) = (s + x * 2 ^ (32 * i)) * 2 ^ (32 * o) := by rw [h2]
  rw [Nat.add_mul, Nat.add_mul, Nat.mul_assoc, Nat.mul_assoc] at h3
  rw [Nat.mul_comm (2 ^ (32 * o))] at h1
  omega

section
variable {w w' : World} {g N o L n s i x : Nat}
theorem Segm.cell (h : Segm w g N o L n s) (hi : i < n) : w.cell? ⟨g, o + i, none⟩ = some (.int .u32 ((dig s i : Nat) : Int)) := by
  rw [← dig_seg (s := s) (i := i) h.1]
  have := h.2.2.1
  exact h.2.2.2.cell (by omega)
theorem Segm.frozen (h : Segm w g N o L n s) (i : Nat) : w.frozen? ⟨g, i, none⟩ = false := h.2.2.2.frozen i
theorem Segm.set_ (h : Segm w g N o L n s) (hi : i < n) (hx : x < 4294967296) : Segm (w.setCell ⟨g, o + i, none⟩ (.int .u32 ((x : Nat) : Int))) g N o L n (put s i x) := by
  have := h.2.2.1
  refine ⟨h.1, put_lt h.2.1 hi hx, h.2.2.1, ?_⟩
  rw [← put_seg h.1]
  exact h.2.2.2.set_ (by omega) hx
theorem Segm.drewN (h : Segm w g N o L n s) (k : Nat) : Segm (w.drewN k) g N o L n s := h
theorem Segm.drew (h : Segm w g N o L n s) : Segm w.drew g N o L n s := h
/-- A slice elsewhere is kept. -/
theorem Num.only {B n a : Nat} {A : Option Addr} (h : Num w B A n a) (hg : w.grownBy w' (some g)) (hB : B ≤ g) (hw : B ≤ w.heap.size) : Num w' B A n a :=
  h.keep fun p hp => World.cell?_of_block (hg.block p.block (by omega) (fun e => by injection e with e; omega))
end

/-- u less v q: after k words: c is carried, e is borrowed. -/
def SubAt (w wr : World) (g N o L n s v q k c e : Nat) : Prop :=
  ∃ s', s' + v % 2 ^ (32 * k) * q = s + (c + e) * 2 ^ (32 * k) ∧ Segm wr g N o L (n + 1) s' ∧ w.grownBy wr (some g)

theorem sub_step (s s' v q k c e x y d r c' e' l : Nat) (h : s' + v % 2 ^ (32 * k) * q = s + (c + e) * 2 ^ (32 * k)) (hx : x = dig v k) (hd : d = dig s' k)
    (hl : c' * 4294967296 + l = x * q + c) (hr : r + l + e = d + e' * 4294967296) :
    put s' k r + v % 2 ^ (32 * (k + 1)) * q = s + (c' + e') * 2 ^ (32 * (k + 1)) := by
  have hp := put_add s' k r
  rw [← hd] at hp
  rw [mod_pw_succ, ← hx, pw_succ]
  generalize 2 ^ (32 * k) = P at *
  have e1 : (c' * 4294967296 + l) * P = (x * q + c) * P := by rw [hl]
  have e2 : (r + l + e) * P = (d + e' * 4294967296) * P := by rw [hr]
  simp only [Nat.add_mul] at *
  rw [Nat.mul_right_comm x P q, show c' * (P * 4294967296) = c' * 4294967296 * P by rw [Nat.mul_comm P, Nat.mul_assoc], show e' * (P * 4294967296) = e' * 4294967296 * P by rw [Nat.mul_comm P, Nat.mul_assoc]]
  omega

theorem SubAt.step {w wr : World} {g N o L n s v q k c e r c' e' l : Nat} (h : SubAt w wr g N o L n s v q k c e) (hk : k < n) (hr1 : r < 4294967296) (hl : c' * 4294967296 + l = dig v k * q + c)
    (hr : ∀ s', Segm wr g N o L (n + 1) s' → r + l + e = dig s' k + e' * 4294967296) :
    SubAt w (wr.setCell ⟨g, o + k, none⟩ (.int .u32 (r : Int))) g N o L n s v q (k + 1) c' e' := by
  obtain ⟨s', h1, h2, h3⟩ := h
  exact ⟨put s' k r, sub_step s s' v q k c e _ 0 _ r c' e' l h1 rfl rfl hl (hr s' h2), h2.set_ (by omega) hr1, only_setCell h3 _⟩

/-- The word above. -/
theorem SubAt.last {w wr : World} {g N o L n s v q k c e r e' : Nat} (h : SubAt w wr g N o L n s v q k c e) (hk : n ≤ k) (hk' : k ≤ n) (hv : v < 2 ^ (32 * n)) (hr1 : r < 4294967296)
    (hr : ∀ s', Segm wr g N o L (n + 1) s' → r + c + e = dig s' n + e' * 4294967296) :
    ∃ s', s' + v * q = s + e' * 2 ^ (32 * (n + 1)) ∧ Segm (wr.setCell ⟨g, o + n, none⟩ (.int .u32 (r : Int))) g N o L (n + 1) s' ∧ w.grownBy (wr.setCell ⟨g, o + n, none⟩ (.int .u32 (r : Int))) (some g) := by
  obtain ⟨s', h1, h2, h3⟩ := h
  obtain rfl : k = n := by omega
  refine ⟨put s' k r, ?_, h2.set_ (by omega) hr1, only_setCell h3 _⟩
  have hh := hr s' h2
  have hp := put_add s' k r
  rw [Nat.mod_eq_of_lt hv] at h1
  rw [pw_succ]
  generalize 2 ^ (32 * k) = P at *
  generalize dig s' k = d at *
  have e2 : (r + c + e) * P = (d + e' * 4294967296) * P := by rw [hh]
  simp only [Nat.add_mul] at *
  rw [show e' * (P * 4294967296) = e' * 4294967296 * P by rw [Nat.mul_comm P, Nat.mul_assoc]]
  omega

theorem Segm.one {w : World} {g N o L n a b : Nat} (h : Segm w g N o L n a) (h' : Segm w g N o L n b) : a = b := by
  have := Row.one h.2.2.2 h'.2.2.2
  have := pw_pos o
  exact Nat.eq_of_mul_eq_mul_right (pw_pos o) (by omega)

/-- What subtract and restore return: a word, and the words of the part turned. -/
def RetSeg (g N o L n : Nat) (P : Nat → Nat → Prop) (w : World) (e : Ending) (w' : World) : Prop :=
  ∃ s' b : Nat, e = .returned (.int .u32 (b : Int)) ∧ P s' b ∧ Segm w' g N o L n s' ∧ w.grownBy w' (some g)

theorem subtract_any (A : Option Addr) (g N o L n c d s v q B cu : Nat) (w : World) (hS : Segm w g N o L (n + 1) s) (hA : Num w B A n v) (hBg : B ≤ g) (hn : n ≤ 100000) (hN : N ≤ 200000) (hq : q ≤ 4294967295) :
    Calls Tryd.prog 116 #[.slice (some ⟨g, o, none⟩) (n + 1) cu, .slice A n c, .int .u32 (q : Int)] w (RetSeg g N o L (n + 1) (fun s' b => b ≤ 1 ∧ s' + v * q = s + b * 2 ^ (32 * (n + 1))) w) := by
  have hgw := hS.2.2.2.blk
  have h0 : SubAt w w g N o L n s v q 0 0 0 := ⟨s, by simp [Nat.mod_one], hS, World.grownBy.refl _ _⟩
  have H0 := hid h0
  clear h0
  go_enter Tryd.func116, Tryd.ntmps116
  go_wp2
  go_loopw [7, 9, 14] (fun cy bo i wr => ∃ k cc ee : Nat, k ≤ n ∧ cc ≤ 4294967295 ∧ ee ≤ 1 ∧ i = .int .i64 k ∧ cy = .int .u32 cc ∧ bo = .int .u32 ee ∧ SubAt w wr g N o L n s v q k cc ee) (fun _ _ i _ => n - (intOf i).toNat)
  case atStart => exact ⟨0, 0, 0, by omega, by omega, by omega, rfl, rfl, rfl, H0.out⟩
  case round =>
    obtain ⟨k, cc, ee, hk, hcc, hee, rfl, rfl, rfl, hI⟩ := hrel
    have HI := hid hI
    obtain ⟨s', h1, h2, h3⟩ := hI
    have H2 := hid h2
    by_cases hlt : k < n
    · obtain ⟨ad, rfl, hab, hac⟩ := (hA.only h3 hBg (by omega)).at_ hlt
      have hcell := h2.cell (i := k) (by omega)
      have hfr := h2.frozen (o + k)
      have d1 := dig_lt v k
      have d2 := dig_lt s' k
      obtain ⟨l, hl⟩ := named ((dig v k * q + cc) % 4294967296)
      obtain ⟨c', hc'⟩ := named ((dig v k * q + cc) / 4294967296)
      have hl1 : l ≤ 4294967295 := by have := hl.out; omega
      have hc1 : c' ≤ 4294967295 := by
        have h : dig v k * q ≤ 4294967295 * 4294967295 := Nat.mul_le_mul (by omega) hq
        have := hc'.out
        omega
      have HL := hid (show c' * 4294967296 + l = dig v k * q + cc by rw [hl.out, hc'.out]; omega)
      obtain ⟨r, e', hr1, he1, hr⟩ := sub_word (dig s' k) l ee (by omega) hl1 hee
      clear h1 h2 h3
      go_wp2_with fail
      refine (multiply_nat (dig v k) q cc l c' _ (by omega) hq hcc hl hc').mono ?_
      rintro e w' ⟨rfl, rfl⟩
      go_wp2_with fail
      refine (sub32_nat (dig s' k) l ee r e' _ (by omega) hl1 hee hr1 he1 hr).mono ?_
      rintro e w' ⟨rfl, rfl⟩
      go_wp2_with fail
      go_roundw
      case rel => exact ⟨k + 1, c', e', by omega, hc1, he1, by go_num, rfl, rfl, HI.out.step hlt (by omega) HL.out (fun s2 h => by rw [Segm.one h H2.out]; exact hr.out)⟩
      case measure => simp [intOf]; omega
    · have hcell := h2.cell (i := n) (by omega)
      have hfr := h2.frozen (o + n)
      have d2 := dig_lt s' n
      obtain ⟨r, e', hr1, he1, hr⟩ := sub_word (dig s' n) cc ee (by omega) hcc hee
      clear h1 h2 h3
      go_wp2_with fail
      refine (sub32_nat (dig s' n) cc ee r e' _ (by omega) hcc hee hr1 he1 hr).mono ?_
      rintro e w' ⟨rfl, rfl⟩
      go_wp2_with fail
      go_ret
      obtain ⟨s3, g1, g2, g3⟩ := HI.out.last (by omega) hk hA.lt (show r < 4294967296 by omega) (fun s2 h => by rw [Segm.one h H2.out]; exact hr.out)
      exact ⟨s3, e', rfl, ⟨he1, g1⟩, g2, g3⟩

end Go.Proofs.YtomkmkjkeihodaaDoor
