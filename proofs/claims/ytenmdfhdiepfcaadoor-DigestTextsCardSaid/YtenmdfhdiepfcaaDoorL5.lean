/- digest.written. -/
import Derived.Test.YtenmdfhdiepfcaaDoorL4
set_option linter.unusedVariables false
set_option linter.unusedSimpArgs false
namespace Go.Proofs.YtenmdfhdiepfcaaDoor
open Go Go.RowKit
theorem info25 : (Tryd.prog.info? 25).map (fun i => (i.zero, i.size)) = some (some (.agg (Array.replicate 32 (.int .u8 0))), 32) := by kernel_rfl
def brow (l : List Nat) : Array Value := (l.map byt).toArray
/-- The value of a hash with these bytes. -/
def hv (l : List Nat) : Value := .agg (brow l)
theorem brow_zero (n : Nat) : Array.replicate n (Value.int .u8 0) = brow (List.replicate n 0) := by
  apply Array.ext'; simp [brow, byt]
theorem brow_size (l : List Nat) : (brow l).size = l.length := by simp [brow]
theorem brow_set (l : List Nat) (i x : Nat) : (brow l).setIfInBounds i (.int .u8 ((x : Nat) : Int)) = brow (l.set i x) := by
  simp [brow, byt, List.map_set]
theorem brow_at {l : List Nat} {i : Nat} (h : i < l.length) : (brow l)[i]? = some (.int .u8 ((l.getD i 0 : Nat) : Int)) := by
  simp [brow, byt, h]
theorem brow_one (l : List Nat) : (brow l).all (·.oneCell') = true := by
  rw [Array.all_eq_true]
  intro i h
  simp [brow, byt, Value.oneCell']
theorem Blk.readb {w : World} {g : Nat} {t : TypeId} {l : List Nat} (h : Blk w g t (brow l)) {i : Nat} (hi : i < l.length) : w.cell? ⟨g, i, none⟩ = some (.int .u8 ((l.getD i 0 : Nat) : Int)) := (h.cell i).trans (brow_at hi)
theorem Blk.putb {w : World} {g : Nat} {t : TypeId} {l l' : List Nat} (h : Blk w g t (brow l)) {i x : Nat} (e : l.set i x = l') : Blk (w.setCell ⟨g, i, none⟩ (.int .u8 ((x : Nat) : Int))) g t (brow l') := by
  rw [← e, ← brow_set]; exact h.set_ i _
def b32 : Array Value := brow (List.replicate 32 0)
def wrz (s : St) (k : Nat) : List Nat := (wrt s).take k ++ List.replicate (32 - k) 0
theorem wrt_len (s : St) : (wrt s).length = 32 := by simp [wrt]
theorem wrz_len (s : St) (k : Nat) (h : k ≤ 32) : (wrz s k).length = 32 := by unfold wrz; rw [List.length_append, List.length_take, wrt_len, List.length_replicate]; omega
theorem wrz_set (s : St) (k : Nat) (h : k < 32) : (wrz s k).set k ((stL s).getD (k / 4) 0 / 2 ^ (24 - k % 4 * 8) % 256) = wrz s (k + 1) := by
  unfold wrz
  rw [List.set_append_right _ _ (by rw [List.length_take, wrt_len]; omega), List.length_take, wrt_len, Nat.min_eq_left (by omega), Nat.sub_self, show 32 - k = (32 - (k + 1)) + 1 from by omega, List.replicate_succ, List.set_cons_zero, List.take_add_one, wrt, List.getElem?_map, List.getElem?_range h]
  simp
theorem wrz_all (s : St) : wrz s 32 = wrt s := by unfold wrz; rw [List.take_of_length_le (by rw [wrt_len]; exact Nat.le_refl _)]; simp
set_option maxRecDepth 100000 in
set_option maxHeartbeats 4000000 in
theorem written_any (s : St) (w : World) : Calls Tryd.prog 35 #[stV s] w (fun e w' => e = .returned (hv (wrt s)) ∧ Below w.heap.size w w') := by
  have hz := (zero_of_info info25).1
  rw [brow_zero] at hz
  replace hz : ∀ w, (zeroValue 25).run Tryd.prog w = .ok (.agg b32) w := hz
  have b1 := ((Blk.new w 60 (row (stL s))).alloc (.cells b32 25)).alloc (.cells b32 25)
  have b2 := (Blk.new (w.alloc (.cells (row (stL s)) 60)) 25 b32).alloc (.cells b32 25)
  have b3 := Blk.new ((w.alloc (.cells (row (stL s)) 60)).alloc (.cells b32 25)) 25 b32
  have WW := (((Below.refl w.heap.size w).alloc (Nat.le_refl _) (.cells (row (stL s)) 60)).alloc (by simp) (.cells b32 25)).alloc (by simp; omega) (.cells b32 25)
  simp only [World.size_alloc] at b2 b3
  obtain ⟨cs, hcs⟩ : ∃ cs, cs = row (stL s) := ⟨_, rfl⟩
  have hv1 : stV s = .agg cs := by rw [hcs]; rfl
  rw [← hcs] at b1 b2 b3 WW
  rw [hv1]
  have HCS := hid hcs
  clear hcs hv1
  go_enter Tryd.func35, Tryd.ntmps35
  go_wp2_with fail
  generalize hV : ((w.alloc (.cells cs 60)).alloc (.cells b32 25)).alloc (.cells b32 25) = V0 at b1 b2 b3 WW ⊢
  clear hV
  rw [HCS.out] at b1
  rename_i KK hKK
  have HK := hid hKK
  clear hKK
  go_loopw [5] (fun i wr => ∃ k : Nat, k ≤ 32 ∧ i = .int .i64 ((k : Nat) : Int) ∧ Below w.heap.size w wr ∧ Blk wr w.heap.size 60 (row (stL s)) ∧ Blk wr (w.heap.size + 1) 25 b32 ∧ Blk wr (w.heap.size + 1 + 1) 25 (brow (wrz s k))) (fun i wr => 32 - (intOf i).toNat)
  case atStart => exact ⟨0, by omega, rfl, WW, b1, b2, b3⟩
  case round =>
    clear WW b1 b2 b3
    obtain ⟨k, hk, rfl, WW, b1, b2, b3⟩ := hrel
    by_cases hlt : k < 32
    · have hrd := b1.reads (i := k / 4) (show k / 4 < 8 by omega)
      have hf := b3.frozen k
      have hr3 := b3.readb (i := k) (by rw [wrz_len s k hk]; exact hlt)
      have HP := hid (wrz_set s k hlt)
      generalize (stL s).getD (k / 4) 0 = x at hrd HP
      generalize (wrz s k).getD k 0 = x3 at hr3
      have hv : ((x : Nat) : Int) / 2 ^ (24 - k % 4 * 8) % 256 = ((x / 2 ^ (24 - k % 4 * 8) % 256 : Nat) : Int) := by simp
      generalize x / 2 ^ (24 - k % 4 * 8) % 256 = y at hv HP
      go_wp2_with fail
      go_roundw
      case rel => exact ⟨k + 1, by omega, rfl, WW.setCell (by simp <;> omega) _, b1.far (by simp <;> omega) _, b2.far (by simp <;> omega) _, b3.putb HP.out⟩
      case measure => simp [intOf] <;> omega
    · rw [show k = 32 from by omega, wrz_all] at b3
      go_wp2_with fail
      refine HK.out _ _ ?_
      clear HK
      refine wp_seq (wp_region_lit ?_)
      refine wpList_load_row rfl 25 (.tmp 3) rfl _ rfl 25 _ (0, 0) _ b3 Tryd.underlying25 rfl (by rw [brow_size, wrt_len]; kernel_rfl) ?_
      refine wpList_store_row rfl 25 (.tmp 2) (.tmp 21) rfl (w.heap.size + 1) (brow (wrt s)) rfl rfl 25 _ b2 (by rw [brow_size, wrt_len]; kernel_rfl) (by rw [brow_size, wrt_len]; rfl) (brow_one _) ?_
      refine wpList_nil ?_
      go_wp2_with fail
      exact bodyPost_ret (v := hv (wrt s)) (results_cell_row rfl _ _ (w.heap.size + 1) 25 _ (0, 0) _ rfl (b2.setRow_ _) Tryd.underlying25 rfl (by rw [brow_size, wrt_len]; kernel_rfl)) rfl ⟨rfl, below_setRow_ WW (by omega) _⟩
end Go.Proofs.YtenmdfhdiepfcaaDoor
