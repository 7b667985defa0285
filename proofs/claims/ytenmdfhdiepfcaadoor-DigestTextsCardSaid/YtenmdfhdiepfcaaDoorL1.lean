/- digest.right, digest.read. -/
import Derived.Test.YtenmdfhdiepfcaaDoorK
set_option linter.unusedVariables false
set_option linter.unusedSimpArgs false
namespace Go.Proofs.YtenmdfhdiepfcaaDoor
open Go Go.RowKit

/-- The call returns v, and leaves the world. -/
def Ex (v : Value) (w : World) (e : Ending) (w' : World) : Prop := e = .returned v ∧ w' = w
theorem rotr_lt (x n : Nat) (hx : x < 4294967296) : rotr x n < 4294967296 :=
  Nat.or_lt_two_pow (n := 32) (Nat.mod_lt _ (by omega)) (Nat.lt_of_le_of_lt (Nat.div_le_self _ _) hx)
theorem rot_val (x n : Nat) (hx : x < 4294967296) : bits BinOp.or IntKind.u32 (((x : Nat) : Int) * ((2 ^ (32 - n) : Nat) : Int) % 4294967296) (((x : Nat) : Int) / ((2 ^ n : Nat) : Int)) = ((rotr x n : Nat) : Int) := by
  have e1 : ((x : Nat) : Int) * ((2 ^ (32 - n) : Nat) : Int) % 4294967296 = ((x * 2 ^ (32 - n) % 4294967296 : Nat) : Int) := by simp
  have e2 : ((x : Nat) : Int) / ((2 ^ n : Nat) : Int) = ((x / 2 ^ n : Nat) : Int) := by simp
  rw [e1, e2, u32_or_nat _ _ (Nat.mod_lt _ (by omega)) (Nat.lt_of_le_of_lt (Nat.div_le_self _ _) hx)]
  rfl
theorem rotl_2 (x : Nat) (hx : x < 4294967296) (w : World) : Calls Tryd.prog 64 #[.int .u32 ((x : Nat) : Int), .int .i64 (-2)] w (Ex (.int .u32 ((rotr x 2 : Nat) : Int)) w) := by
  have hs : bits BinOp.and IntKind.u64 (IntKind.u64.wrap (-2)) 31 = 30 := by decide +kernel
  have hv := hid (rot_val x 2 hx)
  go_enter Tryd.func64, Tryd.ntmps64
  go_wp2_with fail
  refine bodyPost_ret (v := .int .u32 ((rotr x 2 : Nat) : Int)) ?_ rfl ⟨rfl, rfl⟩
  rw [← hv.out]
  simp [results, Tryd.results64, go_sem]
theorem right_2 (x : Nat) (hx : x < 4294967296) (w : World) : Calls Tryd.prog 57 #[.int .u32 ((x : Nat) : Int), .int .i64 2] w (Ex (.int .u32 ((rotr x 2 : Nat) : Int)) w) := by
  go_enter Tryd.func57, Tryd.ntmps57
  go_wp2_with fail
  have hc := rotl_2 x hx w
  refine hc.mono ?_
  clear hc
  rintro e w' ⟨rfl, rfl⟩
  go_wp2_with fail
  go_ret
  exact ⟨rfl, rfl⟩
theorem rotl_6 (x : Nat) (hx : x < 4294967296) (w : World) : Calls Tryd.prog 64 #[.int .u32 ((x : Nat) : Int), .int .i64 (-6)] w (Ex (.int .u32 ((rotr x 6 : Nat) : Int)) w) := by
  have hs : bits BinOp.and IntKind.u64 (IntKind.u64.wrap (-6)) 31 = 26 := by decide +kernel
  have hv := hid (rot_val x 6 hx)
  go_enter Tryd.func64, Tryd.ntmps64
  go_wp2_with fail
  refine bodyPost_ret (v := .int .u32 ((rotr x 6 : Nat) : Int)) ?_ rfl ⟨rfl, rfl⟩
  rw [← hv.out]
  simp [results, Tryd.results64, go_sem]
theorem right_6 (x : Nat) (hx : x < 4294967296) (w : World) : Calls Tryd.prog 57 #[.int .u32 ((x : Nat) : Int), .int .i64 6] w (Ex (.int .u32 ((rotr x 6 : Nat) : Int)) w) := by
  go_enter Tryd.func57, Tryd.ntmps57
  go_wp2_with fail
  have hc := rotl_6 x hx w
  refine hc.mono ?_
  clear hc
  rintro e w' ⟨rfl, rfl⟩
  go_wp2_with fail
  go_ret
  exact ⟨rfl, rfl⟩
theorem rotl_7 (x : Nat) (hx : x < 4294967296) (w : World) : Calls Tryd.prog 64 #[.int .u32 ((x : Nat) : Int), .int .i64 (-7)] w (Ex (.int .u32 ((rotr x 7 : Nat) : Int)) w) := by
  have hs : bits BinOp.and IntKind.u64 (IntKind.u64.wrap (-7)) 31 = 25 := by decide +kernel
  have hv := hid (rot_val x 7 hx)
  go_enter Tryd.func64, Tryd.ntmps64
  go_wp2_with fail
  refine bodyPost_ret (v := .int .u32 ((rotr x 7 : Nat) : Int)) ?_ rfl ⟨rfl, rfl⟩
  rw [← hv.out]
  simp [results, Tryd.results64, go_sem]
theorem right_7 (x : Nat) (hx : x < 4294967296) (w : World) : Calls Tryd.prog 57 #[.int .u32 ((x : Nat) : Int), .int .i64 7] w (Ex (.int .u32 ((rotr x 7 : Nat) : Int)) w) := by
  go_enter Tryd.func57, Tryd.ntmps57
  go_wp2_with fail
  have hc := rotl_7 x hx w
  refine hc.mono ?_
  clear hc
  rintro e w' ⟨rfl, rfl⟩
  go_wp2_with fail
  go_ret
  exact ⟨rfl, rfl⟩
theorem rotl_11 (x : Nat) (hx : x < 4294967296) (w : World) : Calls Tryd.prog 64 #[.int .u32 ((x : Nat) : Int), .int .i64 (-11)] w (Ex (.int .u32 ((rotr x 11 : Nat) : Int)) w) := by
  have hs : bits BinOp.and IntKind.u64 (IntKind.u64.wrap (-11)) 31 = 21 := by decide +kernel
  have hv := hid (rot_val x 11 hx)
  go_enter Tryd.func64, Tryd.ntmps64
  go_wp2_with fail
  refine bodyPost_ret (v := .int .u32 ((rotr x 11 : Nat) : Int)) ?_ rfl ⟨rfl, rfl⟩
  rw [← hv.out]
  simp [results, Tryd.results64, go_sem]
theorem right_11 (x : Nat) (hx : x < 4294967296) (w : World) : Calls Tryd.prog 57 #[.int .u32 ((x : Nat) : Int), .int .i64 11] w (Ex (.int .u32 ((rotr x 11 : Nat) : Int)) w) := by
  go_enter Tryd.func57, Tryd.ntmps57
  go_wp2_with fail
  have hc := rotl_11 x hx w
  refine hc.mono ?_
  clear hc
  rintro e w' ⟨rfl, rfl⟩
  go_wp2_with fail
  go_ret
  exact ⟨rfl, rfl⟩
theorem rotl_13 (x : Nat) (hx : x < 4294967296) (w : World) : Calls Tryd.prog 64 #[.int .u32 ((x : Nat) : Int), .int .i64 (-13)] w (Ex (.int .u32 ((rotr x 13 : Nat) : Int)) w) := by
  have hs : bits BinOp.and IntKind.u64 (IntKind.u64.wrap (-13)) 31 = 19 := by decide +kernel
  have hv := hid (rot_val x 13 hx)
  go_enter Tryd.func64, Tryd.ntmps64
  go_wp2_with fail
  refine bodyPost_ret (v := .int .u32 ((rotr x 13 : Nat) : Int)) ?_ rfl ⟨rfl, rfl⟩
  rw [← hv.out]
  simp [results, Tryd.results64, go_sem]
theorem right_13 (x : Nat) (hx : x < 4294967296) (w : World) : Calls Tryd.prog 57 #[.int .u32 ((x : Nat) : Int), .int .i64 13] w (Ex (.int .u32 ((rotr x 13 : Nat) : Int)) w) := by
  go_enter Tryd.func57, Tryd.ntmps57
  go_wp2_with fail
  have hc := rotl_13 x hx w
  refine hc.mono ?_
  clear hc
  rintro e w' ⟨rfl, rfl⟩
  go_wp2_with fail
  go_ret
  exact ⟨rfl, rfl⟩
theorem rotl_17 (x : Nat) (hx : x < 4294967296) (w : World) : Calls Tryd.prog 64 #[.int .u32 ((x : Nat) : Int), .int .i64 (-17)] w (Ex (.int .u32 ((rotr x 17 : Nat) : Int)) w) := by
  have hs : bits BinOp.and IntKind.u64 (IntKind.u64.wrap (-17)) 31 = 15 := by decide +kernel
  have hv := hid (rot_val x 17 hx)
  go_enter Tryd.func64, Tryd.ntmps64
  go_wp2_with fail
  refine bodyPost_ret (v := .int .u32 ((rotr x 17 : Nat) : Int)) ?_ rfl ⟨rfl, rfl⟩
  rw [← hv.out]
  simp [results, Tryd.results64, go_sem]
theorem right_17 (x : Nat) (hx : x < 4294967296) (w : World) : Calls Tryd.prog 57 #[.int .u32 ((x : Nat) : Int), .int .i64 17] w (Ex (.int .u32 ((rotr x 17 : Nat) : Int)) w) := by
  go_enter Tryd.func57, Tryd.ntmps57
  go_wp2_with fail
  have hc := rotl_17 x hx w
  refine hc.mono ?_
  clear hc
  rintro e w' ⟨rfl, rfl⟩
  go_wp2_with fail
  go_ret
  exact ⟨rfl, rfl⟩
theorem rotl_18 (x : Nat) (hx : x < 4294967296) (w : World) : Calls Tryd.prog 64 #[.int .u32 ((x : Nat) : Int), .int .i64 (-18)] w (Ex (.int .u32 ((rotr x 18 : Nat) : Int)) w) := by
  have hs : bits BinOp.and IntKind.u64 (IntKind.u64.wrap (-18)) 31 = 14 := by decide +kernel
  have hv := hid (rot_val x 18 hx)
  go_enter Tryd.func64, Tryd.ntmps64
  go_wp2_with fail
  refine bodyPost_ret (v := .int .u32 ((rotr x 18 : Nat) : Int)) ?_ rfl ⟨rfl, rfl⟩
  rw [← hv.out]
  simp [results, Tryd.results64, go_sem]
theorem right_18 (x : Nat) (hx : x < 4294967296) (w : World) : Calls Tryd.prog 57 #[.int .u32 ((x : Nat) : Int), .int .i64 18] w (Ex (.int .u32 ((rotr x 18 : Nat) : Int)) w) := by
  go_enter Tryd.func57, Tryd.ntmps57
  go_wp2_with fail
  have hc := rotl_18 x hx w
  refine hc.mono ?_
  clear hc
  rintro e w' ⟨rfl, rfl⟩
  go_wp2_with fail
  go_ret
  exact ⟨rfl, rfl⟩
theorem rotl_19 (x : Nat) (hx : x < 4294967296) (w : World) : Calls Tryd.prog 64 #[.int .u32 ((x : Nat) : Int), .int .i64 (-19)] w (Ex (.int .u32 ((rotr x 19 : Nat) : Int)) w) := by
  have hs : bits BinOp.and IntKind.u64 (IntKind.u64.wrap (-19)) 31 = 13 := by decide +kernel
  have hv := hid (rot_val x 19 hx)
  go_enter Tryd.func64, Tryd.ntmps64
  go_wp2_with fail
  refine bodyPost_ret (v := .int .u32 ((rotr x 19 : Nat) : Int)) ?_ rfl ⟨rfl, rfl⟩
  rw [← hv.out]
  simp [results, Tryd.results64, go_sem]
theorem right_19 (x : Nat) (hx : x < 4294967296) (w : World) : Calls Tryd.prog 57 #[.int .u32 ((x : Nat) : Int), .int .i64 19] w (Ex (.int .u32 ((rotr x 19 : Nat) : Int)) w) := by
  go_enter Tryd.func57, Tryd.ntmps57
  go_wp2_with fail
  have hc := rotl_19 x hx w
  refine hc.mono ?_
  clear hc
  rintro e w' ⟨rfl, rfl⟩
  go_wp2_with fail
  go_ret
  exact ⟨rfl, rfl⟩
theorem rotl_22 (x : Nat) (hx : x < 4294967296) (w : World) : Calls Tryd.prog 64 #[.int .u32 ((x : Nat) : Int), .int .i64 (-22)] w (Ex (.int .u32 ((rotr x 22 : Nat) : Int)) w) := by
  have hs : bits BinOp.and IntKind.u64 (IntKind.u64.wrap (-22)) 31 = 10 := by decide +kernel
  have hv := hid (rot_val x 22 hx)
  go_enter Tryd.func64, Tryd.ntmps64
  go_wp2_with fail
  refine bodyPost_ret (v := .int .u32 ((rotr x 22 : Nat) : Int)) ?_ rfl ⟨rfl, rfl⟩
  rw [← hv.out]
  simp [results, Tryd.results64, go_sem]
theorem right_22 (x : Nat) (hx : x < 4294967296) (w : World) : Calls Tryd.prog 57 #[.int .u32 ((x : Nat) : Int), .int .i64 22] w (Ex (.int .u32 ((rotr x 22 : Nat) : Int)) w) := by
  go_enter Tryd.func57, Tryd.ntmps57
  go_wp2_with fail
  have hc := rotl_22 x hx w
  refine hc.mono ?_
  clear hc
  rintro e w' ⟨rfl, rfl⟩
  go_wp2_with fail
  go_ret
  exact ⟨rfl, rfl⟩
theorem rotl_25 (x : Nat) (hx : x < 4294967296) (w : World) : Calls Tryd.prog 64 #[.int .u32 ((x : Nat) : Int), .int .i64 (-25)] w (Ex (.int .u32 ((rotr x 25 : Nat) : Int)) w) := by
  have hs : bits BinOp.and IntKind.u64 (IntKind.u64.wrap (-25)) 31 = 7 := by decide +kernel
  have hv := hid (rot_val x 25 hx)
  go_enter Tryd.func64, Tryd.ntmps64
  go_wp2_with fail
  refine bodyPost_ret (v := .int .u32 ((rotr x 25 : Nat) : Int)) ?_ rfl ⟨rfl, rfl⟩
  rw [← hv.out]
  simp [results, Tryd.results64, go_sem]
theorem right_25 (x : Nat) (hx : x < 4294967296) (w : World) : Calls Tryd.prog 57 #[.int .u32 ((x : Nat) : Int), .int .i64 25] w (Ex (.int .u32 ((rotr x 25 : Nat) : Int)) w) := by
  go_enter Tryd.func57, Tryd.ntmps57
  go_wp2_with fail
  have hc := rotl_25 x hx w
  refine hc.mono ?_
  clear hc
  rintro e w' ⟨rfl, rfl⟩
  go_wp2_with fail
  go_ret
  exact ⟨rfl, rfl⟩
theorem join_bits (s a b : Nat) (h : a % 2 ^ s = 0) (h2 : b < 2 ^ s) : a ||| b = a + b := nat_join s a b h h2
theorem rd4_val (a b c d : Nat) (ha : a < 256) (hb : b < 256) (hc : c < 256) (hd : d < 256) :
    bits BinOp.or IntKind.u32 (bits BinOp.or IntKind.u32 (bits BinOp.or IntKind.u32 (((a : Nat) : Int) * 16777216) (((b : Nat) : Int) * 65536)) (((c : Nat) : Int) * 256)) ((d : Nat) : Int) = ((rd4 a b c d : Nat) : Int) := by
  have e1 : ((a : Nat) : Int) * 16777216 = ((a * 16777216 : Nat) : Int) := by simp
  have e2 : ((b : Nat) : Int) * 65536 = ((b * 65536 : Nat) : Int) := by simp
  have e3 : ((c : Nat) : Int) * 256 = ((c * 256 : Nat) : Int) := by simp
  rw [e1, e2, e3, u32_or_nat _ _ (by omega) (by omega), join_bits 24 _ _ (by omega) (by omega), u32_or_nat _ _ (by omega) (by omega), join_bits 16 _ _ (by omega) (by omega), u32_or_nat _ _ (by omega) (by omega), join_bits 8 _ _ (by omega) (by omega)]
  rfl
theorem read_any (A : Addr) (a b c d n m : Nat) (hm : n ≤ 9223372036854775807) (ha : a < 256) (hb : b < 256) (hc : c < 256) (hd : d < 256) (w : World) (hn : 4 ≤ n) (h0 : w.cell? A = some (byt a)) (h1 : w.cell? (A.add 1) = some (byt b)) (h2 : w.cell? (A.add 2) = some (byt c)) (h3 : w.cell? (A.add 3) = some (byt d)) :
    Calls Tryd.prog 46 #[.slice (some A) n m] w (fun e w' => e = .returned (.int .u32 ((rd4 a b c d : Nat) : Int)) ∧ ∃ k, w' = w.drewN k) := by
  replace h0 : w.cell? A = some (.int .u8 ((a : Nat) : Int)) := h0
  replace h1 : w.cell? { block := A.block, off := A.off + 1 } = some (.int .u8 ((b : Nat) : Int)) := h1
  replace h2 : w.cell? { block := A.block, off := A.off + 2 } = some (.int .u8 ((c : Nat) : Int)) := h2
  replace h3 : w.cell? { block := A.block, off := A.off + 3 } = some (.int .u8 ((d : Nat) : Int)) := h3
  have x0 : 0 < n := by omega
  have x1 : (1 : Int) < (n : Int) := by omega
  have x2 : (2 : Int) < (n : Int) := by omega
  have x3 : (3 : Int) < (n : Int) := by omega
  have hv := hid (rd4_val a b c d ha hb hc hd)
  go_enter Tryd.func46, Tryd.ntmps46
  go_wp2_with fail
  go_quiet (fail)
  go_wp2_with fail
  refine bodyPost_ret (v := .int .u32 ((rd4 a b c d : Nat) : Int)) ?_ rfl ⟨rfl, _, rfl⟩
  rw [← hv.out]
  simp [results, Tryd.results46, go_sem]
end Go.Proofs.YtenmdfhdiepfcaaDoor
