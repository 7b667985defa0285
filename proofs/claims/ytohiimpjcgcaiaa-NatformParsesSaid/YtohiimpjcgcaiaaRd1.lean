/- The reference of layer 4: trim, divide, digit. -/
import Derived.Test.YtohiimpjcgcaiaaWr
set_option linter.unusedVariables false
set_option linter.unusedSimpArgs false
namespace Go.Proofs.Ytohiimpjcgcaiaa
open Go.RowKit

theorem trim4_any (A : Option Addr) (n c a base : Nat) (w : World) (hO : Own w base A n c a) (hn : n ≤ 1000000) :
    Calls Try.prog 33 #[.slice A n c] w (fun e w' => e = .returned (.slice A (nw a) c) ∧ Own w base A (nw a) c a ∧ w' = w) := by
  have HO := hid hO
  have hlt := hO.1
  have hnc := hO.2.1
  have hcm := hO.2.2.1
  unfold maxLen at hcm
  clear hO
  go_enter Try.func33, Try.ntmps33
  go_wp2_with fail
  go_loopw [0] (fun l wr => ∃ k : Nat, k ≤ n ∧ l = .slice A k c ∧ a < 2 ^ (32 * k) ∧ wr = w) (fun l _ => match l with | .slice _ k _ => k | _ => 0)
  case atStart => exact ⟨n, Nat.le_refl _, rfl, hlt, rfl⟩
  case round =>
    obtain ⟨k, hk, rfl, ha, rfl⟩ := hrel
    by_cases hk0 : k = 0
    · subst hk0
      obtain rfl : a = 0 := by simpa using ha
      have h00 : nw 0 = 0 := rfl
      have HC := hid hcm
      clear ha
      go_wp2_with fail
      exact bodyPost_ret (v := .slice A 0 c) (by simp [results, Try.results33, go_sem]) rfl ⟨rfl, Own.nil _ _ _ _ (by unfold maxLen; omega), rfl⟩
    · obtain ⟨g, cs, rfl, hg, hB, hcs⟩ := HO.out.2.2.2 (by omega)
      have hce := (hB.cell (k - 1)).trans (hcs (k - 1) (by omega))
      have j1 : (k : Int) - 1 = ((k - 1 : Nat) : Int) := by omega
      have j2 : 0 < k := by omega
      have j3 : (0 : Int) < (k : Int) := by omega
      by_cases hd : dig a (k - 1) = 0
      · have H := hid (lt_of_dig (by rw [show k - 1 + 1 = k by omega]; exact ha) hd)
        rw [hd] at hce
        clear hcs hB ha hd hk0
        go_wp2_with fail
        go_roundw
        case rel => exact ⟨k - 1, by omega, rfl, H.out, trivial⟩
        case measure => simp <;> omega
      · have HK : Hid (nw a = k) := nw_unique ha (.inr hd)
        have d1 := dig_lt a (k - 1)
        have d3 : (((dig a (k - 1) : Nat) : Int) == 0) = false := by simp; omega
        have HOk := hid (show Own wr base (some ⟨g, 0, none⟩) k c a from ⟨ha, by omega, HO.out.2.2.1, fun _ => ⟨g, cs, rfl, hg, hB, fun i hi => hcs i (by omega)⟩⟩)
        clear hcs hB ha hd hk0
        go_wp2_with fail
        exact bodyPost_ret (v := .slice (some ⟨g, 0, none⟩) k c) (by simp [results, Try.results33, go_sem]) rfl (by rw [HK.out]; exact ⟨rfl, HOk.out, rfl⟩)

theorem div_split (a j : Nat) : a / 2 ^ (32 * j) = a / 2 ^ (32 * (j + 1)) * 4294967296 + dig a j := by
  unfold dig
  rw [pw_succ, ← Nat.div_div_eq_div_mul]
  exact (Nat.div_add_mod' _ _).symm
theorem sd_val {P x d R W : Nat} (h0 : 0 < d) (hR : R = P % d) : (P * W + x) / d = P / d * W + (R * W + x) / d ∧ (P * W + x) % d = (R * W + x) % d := by
  have h := Nat.div_add_mod P d
  have e : P * W + x = d * (P / d * W) + (R * W + x) := by
    rw [hR, ← Nat.mul_assoc, ← Nat.add_assoc, ← Nat.add_mul, h]
  rw [e, Nat.mul_add_div h0, Nat.mul_add_mod]
  exact ⟨rfl, rfl⟩
theorem sd_dig (X j : Nat) : dig (X * 2 ^ (32 * (j + 1))) j = 0 := by
  unfold dig
  rw [pw_succ, Nat.mul_comm (2 ^ (32 * j)), ← Nat.mul_assoc, Nat.mul_div_cancel _ (pw_pos j), Nat.mul_mod_left]

theorem rdivide_any (A : Option Addr) (n c a B d : Nat) (w : World) (hA : Num w B A n a) (hB : B ≤ w.heap.size) (hn : n ≤ 100000) (hd1 : 1 ≤ d) (hd2 : d ≤ 256) :
    Calls Try.prog 25 #[.slice A n c, .int .u64 ((d : Nat) : Int)] w (fun e w' => ∃ c', e = .returned (.tuple #[.slice (some ⟨w.heap.size, 0, none⟩) (nw (a / d)) c', .int .u64 ((a % d : Nat) : Int)]) ∧ Own w' w.heap.size (some ⟨w.heap.size, 0, none⟩) (nw (a / d)) c' (a / d) ∧ Below w.heap.size w w') := by
  have hmk : ∀ w, (Instr.makeSlice 22 (.int .i64 ((n : Nat) : Int)) (.int .i64 ((n : Nat) : Int))).run Try.prog w = .ok (.slice (some ⟨w.heap.size, 0, none⟩) n n) (w.alloc (.cells (words n 0) 49)) := make_words n (by omega)
  have HA := hid hA
  have H0 : Hid (Row (w.alloc (.cells (words n 0) 49)) w.heap.size n 0) := Row.new w n
  have HW : Hid (Below w.heap.size w (w.alloc (.cells (words n 0) 49))) := (Below.refl _ _).alloc (Nat.le_refl _) _
  clear hA
  go_enter Try.func25, Try.ntmps25
  go_wp2_with fail
  go_loopw [7, 8] (fun r i wr => ∃ (k R Q : Nat) (z : Int), k ≤ n ∧ r = .int .u64 ((R : Nat) : Int) ∧ i = .int .i64 z ∧ z + 1 = (k : Int) ∧ Hid (R = a / 2 ^ (32 * k) % d) ∧ Hid (Q = a / 2 ^ (32 * k) / d * 2 ^ (32 * k)) ∧ Row wr w.heap.size n Q ∧ Below w.heap.size w wr) (fun _ i _ => (intOf i + 1).toNat)
  case atStart =>
    have e : a / 2 ^ (32 * n) = 0 := Nat.div_eq_of_lt HA.out.lt
    exact ⟨n, 0, 0, ((n : Nat) : Int) - 1, Nat.le_refl _, by go_num, by go_num, by omega, (show 0 = _ by rw [e]; simp), (show 0 = _ by rw [e]; simp), H0.out, HW.out⟩
  case round =>
    obtain ⟨k, R, Q, z, hk, rfl, rfl, hz, HR, HQ, hrow, WW⟩ := hrel
    by_cases hk0 : k = 0
    · subst hk0
      obtain rfl : z = -1 := by omega
      have hQ : Hid (Q = a / d) := (show Q = a / d by rw [HQ.out]; simp)
      have hR : Hid (R = a % d) := (show R = a % d by rw [HR.out]; simp)
      have HO := hid (hrow.own (base := w.heap.size) (Nat.le_refl _) (by unfold maxLen; omega))
      have hW := hid WW
      clear hrow WW HR HQ
      go_wp2_with fail
      refine (trim4_any _ n n Q w.heap.size _ HO.out (by omega)).mono ?_
      rintro e w2 ⟨rfl, ho, rfl⟩
      go_wp2_with fail
      exact bodyPost_ret (v := .tuple #[.slice (some ⟨w.heap.size, 0, none⟩) (nw Q) n, .int .u64 ((R : Nat) : Int)]) (by simp [results, Try.results25, go_sem]) rfl ⟨n, by rw [hQ.out, hR.out], by rw [← hQ.out]; exact ho, hW.out⟩
    · obtain ⟨j, rfl⟩ : ∃ j, k = j + 1 := ⟨k - 1, by omega⟩
      obtain rfl : z = (j : Int) := by omega
      have hj : j < n := by omega
      obtain ⟨ad, rfl, hab, hac⟩ := (HA.out.below (WW.mono hB)).at_ hj
      obtain ⟨x, hx⟩ : ∃ x, x = dig a j := ⟨_, rfl⟩
      have hx1 : x ≤ 4294967295 := by have := dig_lt a j; omega
      rw [← hx] at hac
      obtain ⟨P, hP⟩ : ∃ P, P = a / 2 ^ (32 * (j + 1)) := ⟨_, rfl⟩
      rw [← hP] at HR HQ
      have hPj : a / 2 ^ (32 * j) = P * 4294967296 + x := by rw [div_split a j, hP, hx]
      have hv := sd_val (x := x) (W := 4294967296) (show 0 < d by omega) HR.out
      rw [← hPj] at hv
      have hRd : R < d := by rw [HR.out]; exact Nat.mod_lt _ (by omega)
      obtain ⟨cur, hcur⟩ : ∃ cur, cur = R * 4294967296 + x := ⟨_, rfl⟩
      rw [← hcur] at hv
      obtain ⟨q1, hq1⟩ : ∃ q1, q1 = cur / d := ⟨_, rfl⟩
      obtain ⟨r1, hr1⟩ : ∃ r1, r1 = cur % d := ⟨_, rfl⟩
      have hcd : cur < d * 4294967296 := by rw [hcur]; have : (R + 1) * 4294967296 ≤ d * 4294967296 := Nat.mul_le_mul_right _ hRd; omega
      have hq2 : q1 < 4294967296 := by rw [hq1]; exact Nat.div_lt_of_lt_mul hcd
      have tq : Int.tdiv (cur : Int) (d : Int) = ((q1 : Nat) : Int) := by rw [hq1]; rfl
      have tr : Int.tmod (cur : Int) (d : Int) = ((r1 : Nat) : Int) := by rw [hr1]; rfl
      have HF : bits BinOp.or IntKind.u64 (((R : Nat) : Int) * 4294967296) ((x : Nat) : Int) = ((cur : Nat) : Int) := by
        rw [or_high _ _ (by omega) (by omega) (by omega) (by omega), hcur]; simp
      have hfr := hrow.frozen j
      have hrow2 := hrow.set_ hj hq2
      have HQ2 : Hid (put Q j q1 = a / 2 ^ (32 * j) / d * 2 ^ (32 * j)) := by
        show put Q j q1 = _
        rw [put_zero (by rw [HQ.out]; exact sd_dig _ _), hv.1, hq1, HQ.out, pw_succ, Nat.add_mul, Nat.mul_comm (2 ^ (32 * j)), Nat.mul_assoc]
      have HR2 : Hid (r1 = a / 2 ^ (32 * j) % d) := (show r1 = _ by rw [hv.2, hr1])
      have HROW := hid hrow2
      have hce := hrow.cell hj
      have HW2 := hid (WW.setCell (p := ⟨w.heap.size, j, none⟩) (Nat.le_refl _) (.int .u32 ((q1 : Nat) : Int)))
      have hc1 : cur ≤ 1099511627775 := by have : d * 4294967296 ≤ 256 * 4294967296 := Nat.mul_le_mul_right _ hd2; omega
      have hr2 : r1 ≤ 255 := by have := Nat.mod_lt cur (show d > 0 by omega); omega
      have hz0 : decide (((d : Nat) : Int) = 0) = false := by simp; omega
      clear hrow hrow2 WW hx hP hPj hv hq1 hr1 hcur hcd HQ
      go_wp2_with fail
      go_roundw
      case rel => exact ⟨j, r1, _, ((j : Int) - 1), by omega, by go_num, by go_num, by omega, HR2, HQ2, HROW.out, HW2.out⟩
      case measure => simp [intOf] <;> omega

theorem digit4_any (d : Nat) (w : World) (hd : d ≤ 15) :
    Calls Try.prog 26 #[.int .u64 ((d : Nat) : Int)] w (RetB (.string (strN [sym d])) w) := by
  obtain ⟨s, hs⟩ : ∃ s, s = sym d := ⟨_, rfl⟩
  rw [← hs]
  have hB := Blk.new w 5 #[Value.int .u8 ((s : Nat) : Int)]
  have hcell : ∀ i, i < 1 → (w.alloc (.cells #[Value.int .u8 ((s : Nat) : Int)] 5)).cell? ⟨w.heap.size, 0 + i, none⟩ = some (.int .u8 (([((s : Nat) : Int)] : List Int).getD i 0)) := by
    intro i hi
    obtain rfl : i = 0 := by omega
    exact (hB.cell 0).trans rfl
  have hcv : (convert 37 9 (.slice (some ⟨w.heap.size, 0, none⟩) 1 1)).run Try.prog (w.alloc (.cells #[Value.int .u8 ((s : Nat) : Int)] 5)) = .ok (.string (strN [s])) (w.alloc (.cells #[Value.int .u8 ((s : Nat) : Int)] 5)) :=
    run_convert_bytes_arg (P := Try.prog) _ 37 5 Try.underlying37 Try.underlying5 w.heap.size 0 1 1 [((s : Nat) : Int)] rfl hcell 9 Try.underlying9
  clear hcell
  have hs1 : s ≤ 255 := by rw [hs]; exact sym_le d hd
  have HW := hid ((Below.refl w.heap.size w).alloc (Nat.le_refl _) (.cells #[Value.int .u8 ((s : Nat) : Int)] 5))
  clear hB
  by_cases h : d < 10
  · have e1 : (48 : Int) + ((d : Nat) : Int) = ((s : Nat) : Int) := by rw [hs]; unfold sym; rw [if_pos h]; omega
    have l1 : decide (((d : Nat) : Int) < 10) = true := by simp; omega
    clear hs
    go_enter Try.func26, Try.ntmps26
    go_wp2_with fail
    exact bodyPost_ret (v := .string (strN [s])) (by simp [results, Try.results26, go_sem]) rfl ⟨rfl, HW.out⟩
  · have e1 : (97 : Int) + ((d : Nat) : Int) - 10 = ((s : Nat) : Int) := by rw [hs]; unfold sym; rw [if_neg h]; omega
    have l1 : decide (((d : Nat) : Int) < 10) = false := by simp; omega
    clear hs
    go_enter Try.func26, Try.ntmps26
    go_wp2_with fail
    exact bodyPost_ret (v := .string (strN [s])) (by simp [results, Try.results26, go_sem]) rfl ⟨rfl, HW.out⟩
end Go.Proofs.Ytohiimpjcgcaiaa
