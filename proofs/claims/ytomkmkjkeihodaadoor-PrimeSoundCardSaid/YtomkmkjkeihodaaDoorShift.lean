/- shifted: words of a number times a power of 2. -/
import Derived.Test.YtomkmkjkeihodaaDoorSum
import Derived.IntWalk
set_option linter.unusedVariables false
set_option linter.unusedSimpArgs false
namespace Go.Proofs.YtomkmkjkeihodaaDoor
open Go.RowKit

/-- a 2^x, rounded down. -/
def shN (a : Nat) (x : Int) : Nat := if 0 ≤ x then a * 2 ^ x.toNat else a / 2 ^ (-x).toNat

theorem shN_down (a k g off : Nat) (x : Int) (h : (k : Int) * 32 - x = (g : Int) * 32 + off) : dig (shN a x) k = a / 2 ^ (32 * g) / 2 ^ off % 4294967296 := by
  unfold dig shN
  split
  · rename_i hx
    obtain ⟨y, rfl⟩ := Int.eq_ofNat_of_zero_le hx
    rw [Int.toNat_natCast, show 32 * k = y + (32 * g + off) by omega, Nat.pow_add, ← Nat.div_div_eq_div_mul, Nat.mul_div_cancel _ (Nat.pow_pos (by omega)), Nat.pow_add, Nat.div_div_eq_div_mul]
  · rename_i hx
    obtain ⟨y, hy⟩ := Int.eq_ofNat_of_zero_le (show 0 ≤ -x by omega)
    rw [hy, Int.toNat_natCast, Nat.div_div_eq_div_mul, ← Nat.pow_add, Nat.div_div_eq_div_mul, ← Nat.pow_add, show y + 32 * k = 32 * g + off by omega]

theorem shN_up (a k y : Nat) (x : Int) (h : x = (k : Int) * 32 + y) : dig (shN a x) k = a * 2 ^ y % 4294967296 := by
  unfold dig shN
  rw [if_pos (by omega), h, show ((k : Int) * 32 + y).toNat = 32 * k + y by omega, Nat.pow_add, Nat.mul_left_comm, Nat.mul_div_cancel_left _ (Nat.pow_pos (by omega))]

theorem shift_word (a k : Nat) (x f : Int) (off : Nat) (ho : off ≤ 31) (he : (k : Int) * 32 - x = f * 32 + off) :
    bits BinOp.or IntKind.u32 (digZ a f / 2 ^ off) (digZ a (f + 1) * 2 ^ (32 - off) % 4294967296) = ((dig (shN a x) k : Nat) : Int) := by
  rcases Int.lt_or_le f (-1) with h | h
  · rw [digZ_neg (show f < 0 by omega), digZ_neg (show f + 1 < 0 by omega)]
    obtain ⟨y, hy⟩ := Int.eq_ofNat_of_zero_le (show 0 ≤ x - (k : Int) * 32 - 32 by omega)
    rw [shN_up a k (32 + y) x (by omega)]
    rw [Nat.pow_add, ← Nat.mul_assoc, Nat.mul_right_comm, show (2 : Nat) ^ 32 = 4294967296 from rfl, Nat.mul_mod_left]
    have := join_parts 0 0 off ho (by omega)
    simpa using this
  · rcases Int.lt_or_le f 0 with h0 | h0
    · obtain rfl : f = -1 := by omega
      rw [digZ_neg (show (-1 : Int) < 0 by omega), show (-1 : Int) + 1 = ((0 : Nat) : Int) from rfl, digZ_nat]
      rw [shN_up a k (32 - off) x (by omega)]
      have := join_parts 0 (dig a 0) off ho (by omega)
      rw [show ((0 : Nat) : Int) = 0 from rfl] at this
      rw [this]
      congr 1
      unfold dig
      rw [Nat.zero_div, Nat.add_zero, show 2 ^ (32 * 0) = 1 from rfl, Nat.div_one, Nat.mod_mul_mod]
    · obtain ⟨g, rfl⟩ := Int.eq_ofNat_of_zero_le h0
      rw [digZ_nat, show ((g : Nat) : Int) + 1 = ((g + 1 : Nat) : Int) from rfl, digZ_nat, join_parts _ _ _ ho (dig_lt a g), shN_down a k g off x (by omega)]
      congr 1
      have e : a / 2 ^ (32 * g) = a / 2 ^ (32 * (g + 1)) * 4294967296 + dig a g := by
        unfold dig
        rw [pw_succ, ← Nat.div_div_eq_div_mul]
        omega
      rw [e, div_off _ _ _ ho]
      generalize dig a g / 2 ^ off = l
      unfold dig
      generalize a / 2 ^ (32 * (g + 1)) = H
      generalize 2 ^ (32 - off) = t
      rw [Nat.add_mod, Nat.mod_mul_mod, ← Nat.add_mod]

/-- After k words. -/
def ShAt (w wr : World) (N t k : Nat) : Prop := Row wr w.heap.size N (t % 2 ^ (32 * k)) ∧ Below w.heap.size w wr
theorem ShAt.step {w wr : World} {N t k : Nat} {z : Int} (h : ShAt w wr N t k) (hk : k < N) (hz : z = ((dig t k : Nat) : Int)) :
    ShAt w (wr.setCell ⟨w.heap.size, k, none⟩ (.int .u32 z)) N t (k + 1) := by
  obtain ⟨h1, h2⟩ := h
  have h3 := h1.set_ hk (dig_lt t k)
  rw [put_top (Nat.mod_lt _ (pw_pos k)), ← mod_pw_succ] at h3
  rw [hz]
  exact ⟨h3, h2.setCell (Nat.le_refl _) _⟩
theorem ShAt.drew {w wr : World} {N t k : Nat} (h : ShAt w wr N t k) : ShAt w wr.drew N t k := ⟨h.1, h.2.drew⟩

/-- The call returns a new block of N words whose number is a. -/
def RetRow (N a : Nat) (w : World) (e : Ending) (w' : World) : Prop := e = .returned (.slice (some ⟨w.heap.size, 0, none⟩) N N) ∧ Row w' w.heap.size N a ∧ Below w.heap.size w w'
theorem RetRow.own {N a : Nat} {w : World} {e : Ending} {w' : World} (h : RetRow N a w e w') (hN : N ≤ maxLen) : RetOwn w.heap.size a w e w' :=
  ⟨_, _, _, h.1, h.2.1.own (Nat.le_refl _) hN, h.2.2⟩

theorem shifted_any (A : Option Addr) (n c a B size : Nat) (x : Int) (w : World) (hA : Num w B A n a) (hBw : B ≤ w.heap.size) (hn : n ≤ 100000) (hs : size ≤ 100000) (x0 : -1000000 ≤ x) (x1 : x ≤ 1000000) :
    Calls Tryd.prog 110 #[.slice A n c, .int .i64 x, .int .i64 (size : Int)] w (RetRow size (shN a x % 2 ^ (32 * size)) w) := by
  have hmk := make_words size (by omega)
  have h0 : ShAt w (w.alloc (.cells (words size 0) 48)) size (shN a x) 0 := ⟨by simpa [Nat.mod_one] using Row.new w size, (Below.refl _ _).alloc (Nat.le_refl _) _⟩
  have H0 := hid h0
  clear h0
  go_enter Tryd.func110, Tryd.ntmps110
  go_wp2
  go_loopw [16] (fun i wr => ∃ k : Nat, k ≤ size ∧ i = .int .i64 k ∧ ShAt w wr size (shN a x) k) (fun i _ => size - (intOf i).toNat)
  case atStart => exact ⟨0, by omega, rfl, H0.out⟩
  case round =>
    obtain ⟨k, hk, rfl, hS⟩ := hrel
    have HS := hid hS
    by_cases hlt : k < size
    · obtain ⟨h3, h4⟩ := hS
      have HA := hid (hA.below (h4.mono hBw))
      have hcell := h3.cell hlt
      have hfr := h3.frozen k
      obtain ⟨f, e1⟩ : ∃ f : Int, ((k : Int) * 32 - x) / 32 = f := ⟨_, rfl⟩
      obtain ⟨off, ho, e2⟩ : ∃ off : Nat, off ≤ 31 ∧ bits BinOp.and IntKind.i64 ((k : Int) * 32 - x) 31 = (off : Int) := ⟨(((k : Int) * 32 - x) % 32).toNat, by omega, by rw [and31]; omega⟩
      have e3 : (k : Int) * 32 - x = f * 32 + off := by have := and31 ((k : Int) * 32 - x); omega
      have E3 := hid e3
      have f0 : -1000000 ≤ f := by omega
      have f1 : f ≤ 10000000 := by omega
      have b1 := digZ_bd a f
      have b2 := digZ_bd a (f + 1)
      have g1 : IntKind.i64.wrap (f + 1) = f + 1 := IntWalk.i64_in _ (by omega)
      have g2 : IntKind.i64.wrap (32 - (off : Int)) = ((32 - off : Nat) : Int) := (IntWalk.i64_in _ (by omega)).trans (by omega)
      clear h3 h4 e3
      go_wp2_with fail
      go_region_with (go_at_call 50; refine (word_any A n c a B _ _ HA.out.drew (by omega)).mono ?_; rintro e w' ⟨rfl, rfl⟩)
      all_goals
        go_wp2_with fail
        go_roundw
        case rel => exact ⟨k + 1, by omega, by go_num, (HS.out.step hlt (shift_word a k x f off ho E3.out)).drew⟩
        case measure => simp [intOf]; omega
    · go_wp2
      go_ret
      obtain rfl : k = size := by omega
      obtain ⟨h3, h4⟩ := HS.out
      exact ⟨rfl, h3, h4⟩

end Go.Proofs.YtomkmkjkeihodaaDoor
