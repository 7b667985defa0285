/- product of words. -/
import Derived.Test.YtomkmkjkeihodaaDoorSum
set_option linter.unusedVariables false
set_option linter.unusedSimpArgs false
namespace Go.Proofs.YtomkmkjkeihodaaDoor
open Go.RowKit

/-- After k rows of the product. -/
def ProdAt (w wr : World) (N a b k : Nat) : Prop := Row wr w.heap.size N (a % 2 ^ (32 * k) * b) ∧ Below w.heap.size w wr
/-- Within row k, after j words. -/
def ProdIn (w wr : World) (N a b k m j c : Nat) : Prop :=
  ∃ s, s < 2 ^ (32 * (k + m)) ∧ s + c * 2 ^ (32 * (k + j)) = a % 2 ^ (32 * k) * b + dig a k * (2 ^ (32 * k) * (b % 2 ^ (32 * j))) ∧ Row wr w.heap.size N s ∧ Below w.heap.size w wr

theorem ProdAt.begin {w wr : World} {N a b k m : Nat} (h : ProdAt w wr N a b k) (hb : b < 2 ^ (32 * m)) : ProdIn w wr N a b k m 0 0 :=
  ⟨_, mul_lt_pw (Nat.mod_lt _ (pw_pos k)) hb, by simp [Nat.mod_one], h.1, h.2⟩
theorem ProdIn.step {w wr : World} {N a b k m j c r q o : Nat} (h : ProdIn w wr N a b k m j c) (hj : j < m) (hN : k + m ≤ N) (hr : r < 4294967296)
    (he : ∀ s, Row wr w.heap.size N s → r + (q + o) * 4294967296 = dig a k * dig b j + c + dig s (k + j)) :
    ProdIn w (wr.setCell ⟨w.heap.size, k + j, none⟩ (.int .u32 (r : Int))) N a b k m (j + 1) (q + o) := by
  obtain ⟨s, h1, h2, h3, h4⟩ := h
  exact ⟨put s (k + j) r, put_lt h1 (by omega) hr, mul_step _ _ _ _ _ _ _ _ _ _ _ _ h2 rfl rfl (he s h3), h3.set_ (by omega) hr, h4.setCell (Nat.le_refl _) _⟩
theorem ProdIn.done {w wr : World} {N a b k m j c : Nat} (h : ProdIn w wr N a b k m j c) (hj : m ≤ j) (hj' : j ≤ m) (hN : k + m < N) (hb : b < 2 ^ (32 * m)) (hc : c < 4294967296) :
    ProdAt w (wr.setCell ⟨w.heap.size, k + m, none⟩ (.int .u32 (c : Int))) N a b (k + 1) := by
  obtain ⟨s, h1, h2, h3, h4⟩ := h
  obtain rfl : j = m := by omega
  have h5 := h3.set_ hN hc
  rw [put_top h1, h2, mul_row a b k j hb] at h5
  exact ⟨h5, h4.setCell (Nat.le_refl _) _⟩
theorem ProdIn.drew {w wr : World} {N a b k m j c : Nat} (h : ProdIn w wr N a b k m j c) : ProdIn w wr.drew N a b k m j c := by
  obtain ⟨s, h1, h2, h3, h4⟩ := h
  exact ⟨s, h1, h2, h3, h4.drew⟩
theorem product_any (A B' : Option Addr) (n m c d a b B : Nat) (w : World) (hA : Num w B A n a) (hB : Num w B B' m b) (hBw : B ≤ w.heap.size) (hn : n ≤ 100000) (hm : m ≤ 100000) :
    Calls Tryd.prog 97 #[.slice A n c, .slice B' m d] w (RetOwn w.heap.size (a * b) w) := by
  obtain ⟨N, HN⟩ := named (n + m)
  have hN1 : N ≤ n + m := by have := HN.out; omega
  have hN2 : n + m ≤ N := by have := HN.out; omega
  have hmk : ∀ w, (Instr.makeSlice 35 (.int .i64 ((n : Int) + m)) (.int .i64 ((n : Int) + m))).run Tryd.prog w = .ok (.slice (some ⟨w.heap.size, 0, none⟩) N N) (w.alloc (.cells (words N 0) 48)) := by
    have e : (n : Int) + m = (N : Int) := by have := HN.out; omega
    rw [e]
    exact make_words N (by omega)
  have h0 : ProdAt w (w.alloc (.cells (words N 0) 48)) N a b 0 := ⟨by simpa [Nat.mod_one] using Row.new w N, (Below.refl _ _).alloc (Nat.le_refl _) _⟩
  have H0 := hid h0
  clear h0
  go_enter Tryd.func97, Tryd.ntmps97
  go_wp2
  go_loopw [22] (fun i wr => ∃ k : Nat, k ≤ n ∧ i = .int .i64 k ∧ ProdAt w wr N a b k) (fun i _ => n - (intOf i).toNat)
  case atStart => exact ⟨0, by omega, rfl, H0.out⟩
  case round =>
    obtain ⟨k, hk, rfl, hS⟩ := hrel
    have HS := hid hS
    by_cases hlt : k < n
    · obtain ⟨h3, h4⟩ := hS
      obtain ⟨ad, rfl, hab, hac⟩ := (hA.below (h4.mono hBw)).at_ hlt
      have d1 := dig_lt a k
      clear h3 h4
      go_wp2_with fail
      obtain ⟨wo, hwo⟩ : ∃ wo : World, wo = wr := ⟨_, rfl⟩
      subst hwo
      go_loopw [8, 29] (fun cy i wr => ∃ j cc : Nat, j ≤ m ∧ cc ≤ 4294967295 ∧ i = .int .i64 j ∧ cy = .int .u32 cc ∧ ProdIn w wr N a b k m j cc) (fun _ i _ => m - (intOf i).toNat)
      case atStart => exact ⟨0, 0, by omega, by omega, rfl, rfl, HS.out.begin hB.lt⟩
      case round =>
        obtain ⟨j, cc, hj, hcc, rfl, rfl, hI⟩ := hrel
        have HI := hid hI
        by_cases hjm : j < m
        · obtain ⟨s, h1, h2, h3, h4⟩ := hI
          have hcell := h3.cell (i := k + j) (by omega)
          have hfr := h3.frozen (k + j)
          obtain ⟨bd, rfl, hbb, hbc⟩ := (hB.below (h4.mono hBw)).at_ hjm
          have d2 := dig_lt b j
          have d3 := dig_lt s (k + j)
          have H3 := hid h3
          obtain ⟨r, hr⟩ := named (((dig a k * dig b j + cc) % 4294967296 + dig s (k + j)) % 4294967296)
          obtain ⟨o, ho⟩ := named (((dig a k * dig b j + cc) % 4294967296 + dig s (k + j)) / 4294967296)
          obtain ⟨l, hl⟩ := named ((dig a k * dig b j + cc) % 4294967296)
          obtain ⟨q, hq⟩ := named ((dig a k * dig b j + cc) / 4294967296)
          have hr1 : r < 4294967296 := by have := hr.out; omega
          have hl1 : l < 4294967296 := by have := hl.out; omega
          have hqo : q + o < 4294967296 := by have := mul_word _ _ cc _ d1 d2 (by omega) d3; rw [hq.out, ho.out]; exact this
          have he : r + (q + o) * 4294967296 = dig a k * dig b j + cc + dig s (k + j) := by
            rw [hr.out, hq.out, ho.out]; omega
          have HE := hid he
          have hr' : Hid (r = (l + dig s (k + j)) % 4294967296) := by show r = _; rw [hl.out]; exact hr.out
          have ho' : Hid (o = (l + dig s (k + j)) / 4294967296) := by show o = _; rw [hl.out]; exact ho.out
          clear h1 h2 h3 h4 he
          go_wp2_with fail
          refine (multiply_nat (dig a k) (dig b j) cc l q _ (by omega) (by omega) hcc hl hq).mono ?_
          rintro e w' ⟨rfl, rfl⟩
          go_wp2_with fail
          refine (add32_nat0 l (dig s (k + j)) r o _ (by omega) (by omega) hr' ho').mono ?_
          rintro e w' ⟨rfl, rfl⟩
          go_wp2_with fail
          go_roundw
          case rel => exact ⟨j + 1, q + o, by omega, by omega, by go_num, by go_num, HI.out.step hjm (by omega) hr1 (fun s' h => by rw [Row.one h H3.out]; exact HE.out)⟩
          case measure => simp [intOf]; omega
        · obtain ⟨s, h1, h2, h3, h4⟩ := hI
          have hcell := h3.cell (i := k + m) (by omega)
          have hfr := h3.frozen (k + m)
          clear h1 h2 h3 h4
          go_wp2_with fail
          go_roundw
          case rel => exact ⟨k + 1, by omega, by go_num, HI.out.done (by omega) hj (by omega) hB.lt (by omega)⟩
          case measure => simp [intOf]; omega
    · go_wp2
      go_ret
      obtain rfl : k = n := by omega
      obtain ⟨h3, h4⟩ := HS.out
      rw [Nat.mod_eq_of_lt hA.lt] at h3
      exact ⟨_, _, _, rfl, h3.own (Nat.le_refl _) (by unfold maxLen; omega), h4⟩

end Go.Proofs.YtomkmkjkeihodaaDoor
