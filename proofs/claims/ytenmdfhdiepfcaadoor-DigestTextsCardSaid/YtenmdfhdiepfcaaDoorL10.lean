/- strings.HasPrefix; the law's awake. -/
import Derived.Test.YtenmdfhdiepfcaaDoorL9
import Derived.Lib.SlBytesConst
import Derived.Lib.ConvBytes
set_option linter.unusedVariables false
set_option linter.unusedSimpArgs false
namespace Go.Proofs.YtenmdfhdiepfcaaDoor
open Go Go.RowKit
theorem hasprefix_yes (s p : ByteArray) (w : World) (hs : s.size ≤ 9223372036854775807) (h : p.size ≤ s.size) (he : s.extract 0 p.size = p) :
    Calls Tryd.prog 31 #[.string s, .string p] w (Ex (.bool true) w) := by
  have hl : ((p.size : Nat) : Int) ≤ ((s.size : Nat) : Int) := by omega
  go_enter Tryd.func31, Tryd.ntmps31
  go_wp2_with fail
  have hc : Calls Tryd.prog 54 #[.string s, .string p] w (Ex (.bool true) w) := by
    go_enter Tryd.func54, Tryd.ntmps54
    go_wp2_with fail
    go_ret
    exact ⟨rfl, rfl⟩
  refine hc.mono ?_
  clear hc
  rintro e w' ⟨rfl, rfl⟩
  go_wp2_with fail
  go_ret
  exact ⟨rfl, rfl⟩
theorem sha_len (l : List Nat) : (sha l).length = 32 := by unfold sha; exact wrt_len _
theorem sha_lt (l : List Nat) (i : Nat) : (sha l).getD i 0 < 256 := by
  unfold sha wrt
  rw [List.getD_eq_getElem?_getD, List.getElem?_map]
  rcases Nat.lt_or_ge i 32 with h | h
  · rw [List.getElem?_range h]; exact Nat.mod_lt _ (by omega)
  · rw [List.getElem?_eq_none (by simpa using h)]; simp
theorem strN_size (l : List Nat) : (strN l).size = l.length := by unfold strN; rw [strOfNums_size, List.length_map]
set_option maxRecDepth 100000 in
theorem pre_abc : (strN (hexL (sha [97, 98, 99]))).extract 0 8 = { data := #[98, 97, 55, 56, 49, 54, 98, 102] } := by
  rw [sha_abc]
  decide +kernel
set_option maxRecDepth 100000 in
theorem pre_nil : (strN (hexL (sha []))).extract 0 8 = { data := #[101, 51, 98, 48, 99, 52, 52, 50] } := by
  rw [sha_nil]
  decide +kernel
set_option maxRecDepth 100000 in
set_option maxHeartbeats 4000000 in
theorem awake_any (w : World) (hT : Tabs w) : Calls Tryd.prog 11 #[] w (fun e w' => e = .returned (.bool true) ∧ Below w.heap.size w w') := by
  have hcv := Lib.run_convert_bytes_const (P := Tryd.prog) w 22 5 #[.int .u8 97, .int .u8 98, .int .u8 99] 3 3 Tryd.underlying22 Tryd.underlying5
  have HT := hid hT
  clear hT
  go_enter Tryd.func11, Tryd.ntmps11
  go_wp2_with fail
  obtain ⟨C, hC⟩ : ∃ C, C = #[Value.int .u8 97, .int .u8 98, .int .u8 99] := ⟨_, rfl⟩
  have WW : Below w.heap.size w (w.alloc (.cells #[.int .u8 97, .int .u8 98, .int .u8 99] 5 (3, 4))) := (Below.refl _ _).alloc (Nat.le_refl _) _
  have hcell : ∀ i (h : i < [97, 98, 99].length), (w.alloc (.cells #[.int .u8 97, .int .u8 98, .int .u8 99] 5 (3, 4))).cell? ⟨w.heap.size, i, none⟩ = some (byt [97, 98, 99][i]) := by
    intro i h
    rw [cell_of_row _ _ i #[.int .u8 97, .int .u8 98, .int .u8 99] 5 (3, 4) (heap_alloc_new w _)]
    match i, h with
    | 0, _ => rfl
    | 1, _ => rfl
    | 2, _ => rfl
  generalize hV : w.alloc (.cells #[.int .u8 97, .int .u8 98, .int .u8 99] 5 (3, 4)) = V at WW hcell ⊢
  have hvs : V.heap.size = w.heap.size + 1 := by rw [← hV]; simp
  clear hV hcv hC C
  have hw1 := HT.out.big
  have hc := sum_any (some ⟨w.heap.size, 0, none⟩) 3 3 [97, 98, 99] V (HT.out.below' hw1 WW) (fun h => by cases h) (fun i h => ⟨_, rfl, by rw [hvs]; exact Nat.lt_succ_self _, by rw [add_at, Nat.zero_add]; exact hcell i h, by match i, h with | 0, _ => exact (by decide : 97 ≤ 255) | 1, _ => exact (by decide : 98 ≤ 255) | 2, _ => exact (by decide : 99 ≤ 255)⟩) rfl (by omega) (Nat.le_refl _) (by omega)
  clear hcell hvs
  refine hc.mono ?_
  clear hc
  rintro e V1 ⟨rfl, hb⟩
  replace WW := WW.trans (hb.mono WW.size)
  clear hb
  go_wp2_with fail
  refine (hex_any (sha [97, 98, 99]) V1 (sha_len _) (sha_lt _)).mono ?_
  rintro e V2 ⟨rfl, hb⟩
  replace WW := WW.trans (hb.mono WW.size)
  clear hb
  obtain ⟨S1, hS1⟩ : ∃ S, S = strN (hexL (sha [97, 98, 99])) := ⟨_, rfl⟩
  have z1 : S1.size = 64 := by rw [hS1, strN_size, hexL_len, sha_len]
  have p1 := pre_abc
  rw [← hS1] at p1 ⊢
  clear hS1
  have Z1 := hid z1
  have P1 := hid p1
  clear z1 p1
  go_wp2_with fail
  refine (hasprefix_yes S1 { data := #[98, 97, 55, 56, 49, 54, 98, 102] } V2 (by rw [Z1.out]; omega) (by rw [Z1.out]; decide) P1.out).mono ?_
  rintro e w' ⟨rfl, rfl⟩
  go_wp2_with fail
  have hc := sum_any none 0 0 [] w' (HT.out.below' hw1 WW) (fun _ => ⟨rfl, rfl⟩) (fun i h => by cases h) rfl (by omega) (Nat.le_refl _) (by omega)
  refine hc.mono ?_
  clear hc
  rintro e V3 ⟨rfl, hb⟩
  replace WW := WW.trans (hb.mono WW.size)
  clear hb
  go_wp2_with fail
  refine (hex_any (sha []) V3 (sha_len _) (sha_lt _)).mono ?_
  rintro e V4 ⟨rfl, hb⟩
  replace WW := WW.trans (hb.mono WW.size)
  clear hb
  obtain ⟨S2, hS2⟩ : ∃ S, S = strN (hexL (sha [])) := ⟨_, rfl⟩
  have z2 : S2.size = 64 := by rw [hS2, strN_size, hexL_len, sha_len]
  have p2 := pre_nil
  rw [← hS2] at p2 ⊢
  clear hS2
  have Z2 := hid z2
  have P2 := hid p2
  clear z2 p2
  go_wp2_with fail
  refine (hasprefix_yes S2 { data := #[101, 51, 98, 48, 99, 52, 52, 50] } V4 (by rw [Z2.out]; omega) (by rw [Z2.out]; decide) P2.out).mono ?_
  rintro e w' ⟨rfl, rfl⟩
  go_wp2_with fail
  go_ret
  exact ⟨rfl, WW⟩
end Go.Proofs.YtenmdfhdiepfcaaDoor
