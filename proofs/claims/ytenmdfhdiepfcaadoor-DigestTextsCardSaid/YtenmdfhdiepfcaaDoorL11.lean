/- bytes.Compare, strings.Compare, digest.Compare; the order of digests. -/
import Derived.Test.YtenmdfhdiepfcaaDoorL10
import Derived.Lib.Bytealg
import Derived.Lib.BytesEntry
import Derived.Lib.Bytes
set_option linter.unusedVariables false
set_option linter.unusedSimpArgs false
namespace Go.Proofs.YtenmdfhdiepfcaaDoor
open Go Go.RowKit

/-- Two lists of numbers, compared. -/
def cmpN : List Nat → List Nat → Int
  | [], [] => 0
  | [], _ :: _ => -1
  | _ :: _, [] => 1
  | a :: l, b :: m => if a < b then -1 else if b < a then 1 else cmpN l m
theorem strN_bytes (l : List Nat) : (strN l).data.toList = l.map fun n => UInt8.ofNat n := by
  unfold strN
  rw [strOfNums_data, List.map_map]
  apply List.map_congr_left
  intro x _
  simp
theorem of_lt {a b : Nat} (ha : a < 256) (hb : b < 256) : UInt8.ofNat a < UInt8.ofNat b ↔ a < b := by
  rw [UInt8.lt_iff_toNat_lt, UInt8.toNat_ofNat', UInt8.toNat_ofNat', Nat.mod_eq_of_lt ha, Nat.mod_eq_of_lt hb]
theorem cmp_bytes : ∀ (a b : List Nat), (∀ x ∈ a, x < 256) → (∀ x ∈ b, x < 256) → Lib.compareBytes (strN a).data.toList (strN b).data.toList = cmpN a b := by
  intro a b ha hb
  rw [strN_bytes, strN_bytes]
  induction a generalizing b with
  | nil => cases b <;> rfl
  | cons x a ih =>
    cases b with
    | nil => rfl
    | cons y b =>
      simp only [List.map_cons, Lib.compareBytes, cmpN]
      have h1 := of_lt (ha x (by simp)) (hb y (by simp))
      have h2 := of_lt (hb y (by simp)) (ha x (by simp))
      simp only [h1, h2]
      rw [ih b (fun z hz => ha z (by simp [hz])) (fun z hz => hb z (by simp [hz]))]
theorem cmpN_range (a b : List Nat) : cmpN a b = -1 ∨ cmpN a b = 0 ∨ cmpN a b = 1 := by
  induction a generalizing b with
  | nil => cases b <;> simp [cmpN]
  | cons x a ih =>
    cases b with
    | nil => simp [cmpN]
    | cons y b => simp only [cmpN]; split <;> (try split) <;> simp [ih b]
theorem cmpN_neg (a b : List Nat) : cmpN b a = - cmpN a b := by
  induction a generalizing b with
  | nil => cases b <;> rfl
  | cons x a ih =>
    cases b with
    | nil => rfl
    | cons y b =>
      simp only [cmpN]
      rcases Nat.lt_trichotomy x y with h | h | h
      · rw [if_neg (by omega), if_pos h, if_pos h]; rfl
      · rw [if_neg (by omega), if_neg (by omega), if_neg (by omega), if_neg (by omega)]; exact ih b
      · rw [if_pos h, if_neg (by omega), if_pos h]
theorem cmpN_zero {a b : List Nat} : cmpN a b = 0 ↔ a = b := by
  induction a generalizing b with
  | nil => cases b <;> simp [cmpN]
  | cons x a ih =>
    cases b with
    | nil => simp [cmpN]
    | cons y b =>
      simp only [cmpN]
      rcases Nat.lt_trichotomy x y with h | h | h
      · rw [if_pos h]; simp; omega
      · rw [if_neg (by omega), if_neg (by omega), ih, h]; simp
      · rw [if_neg (by omega), if_pos h]; simp; omega
theorem cmpN_trans {a b c : List Nat} (h1 : cmpN a b ≤ 0) (h2 : cmpN b c ≤ 0) : cmpN a c ≤ 0 := by
  induction a generalizing b c with
  | nil => cases c <;> simp [cmpN]
  | cons x a ih =>
    cases b with
    | nil => simp [cmpN] at h1
    | cons y b =>
      cases c with
      | nil => simp [cmpN] at h2
      | cons z c =>
        simp only [cmpN] at h1 h2 ⊢
        rcases Nat.lt_trichotomy x y with h | h | h
        · rcases Nat.lt_trichotomy y z with g | g | g
          · rw [if_pos (by omega)]; omega
          · rw [if_pos (by omega)]; omega
          · rw [if_neg (by omega), if_pos g] at h2; omega
        · rcases Nat.lt_trichotomy y z with g | g | g
          · rw [if_pos (by omega)]; omega
          · rw [if_neg (by omega), if_neg (by omega)] at h1 h2 ⊢
            exact ih h1 h2
          · rw [if_neg (by omega), if_pos g] at h2; omega
        · rw [if_neg (by omega), if_pos h] at h1; omega
theorem sym_lt {a b : Nat} (ha : a < 16) (hb : b < 16) : sym a < sym b ↔ a < b := by
  unfold sym; split <;> split <;> omega
theorem cmp_hex : ∀ (a b : List Nat), (∀ x ∈ a, x < 256) → (∀ x ∈ b, x < 256) → cmpN (hexL a) (hexL b) = cmpN a b := by
  intro a b ha hb
  induction a generalizing b with
  | nil => cases b <;> simp [hexL, cmpN]
  | cons x a ih =>
    cases b with
    | nil => simp [hexL, cmpN]
    | cons y b =>
      have e : ∀ (z : Nat) (l : List Nat), hexL (z :: l) = sym (z / 16) :: sym (z % 16) :: hexL l := fun z l => by simp [hexL]
      rw [e, e]
      have hx := ha x (by simp)
      have hy := hb y (by simp)
      simp only [cmpN, sym_lt (show x / 16 < 16 by omega) (show y / 16 < 16 by omega), sym_lt (show y / 16 < 16 by omega) (show x / 16 < 16 by omega), sym_lt (show x % 16 < 16 by omega) (show y % 16 < 16 by omega), sym_lt (show y % 16 < 16 by omega) (show x % 16 < 16 by omega)]
      rw [ih b (fun z hz => ha z (by simp [hz])) (fun z hz => hb z (by simp [hz]))]
      by_cases h : x / 16 < y / 16
      · rw [if_pos h, if_pos (by omega)]
      · by_cases h2 : y / 16 < x / 16
        · rw [if_neg h, if_pos h2, if_neg (by omega), if_pos (by omega)]
        · rw [if_neg h, if_neg h2]
          by_cases h3 : x % 16 < y % 16
          · rw [if_pos h3, if_pos (by omega)]
          · by_cases h4 : y % 16 < x % 16
            · rw [if_neg h3, if_pos h4, if_neg (by omega), if_pos (by omega)]
            · rw [if_neg h3, if_neg h4, if_neg (by omega), if_neg (by omega)]
theorem hexL_lt {l : List Nat} (h : ∀ x ∈ l, x < 256) : ∀ x ∈ hexL l, x < 256 := by
  intro x hx
  unfold hexL at hx
  obtain ⟨y, hy, hx⟩ := List.mem_flatMap.1 hx
  have := h y hy
  have h1 := sym_le (y / 16) (by omega)
  have h2 := sym_le (y % 16) (by omega)
  simp at hx
  omega
theorem strcompare_any (a b : ByteArray) (w : World) : Calls Tryd.prog 29 #[.string a, .string b] w (Ex (.int .i64 (Lib.compareBytes a.data.toList b.data.toList)) w) := by
  have hc : Calls Tryd.prog 53 #[.string a, .string b] w (Ex (.int .i64 (Lib.compareBytes a.data.toList b.data.toList)) w) := by
    go_enter Tryd.func53, Tryd.ntmps53
    go_wp2_with fail
    rw [run_callFunc_extern Tryd.func63 (by kernel_rfl) (by kernel_rfl) (by kernel_rfl) (e := Extern.BytealgCompare.compare) (by kernel_rfl), Lib.run_compareString]
    simp only [Result.andThen]
    rw [Oper.upon_value]
    go_wp2_with fail
    go_ret
    exact ⟨rfl, rfl⟩
  go_enter Tryd.func29, Tryd.ntmps29
  go_wp2_with fail
  refine hc.mono ?_
  rintro e w' ⟨rfl, rfl⟩
  go_wp2_with fail
  go_ret
  exact ⟨rfl, rfl⟩
theorem run_bytesOf_bn (A : Addr) (n c : Nat) (l : List Nat) (w : World) (hl : l.length = n) (h : ∀ i (hi : i < l.length), w.cell? (A.add i) = some (byt l[i])) : (Extern.Bytes.bytesOf (.slice (some A) n c)).run Tryd.prog w = .ok (strN l) w := by
  have hr := Lib.run_loadBytesX (P := Tryd.prog) w (l.map fun d => ((d : Nat) : Int)) A .empty (fun j x hj => by
    rw [List.getElem?_map] at hj
    rcases Nat.lt_or_ge j l.length with h1 | h1
    · rw [List.getElem?_eq_getElem h1] at hj
      injection hj with hj
      subst hj
      exact h j h1
    · rw [List.getElem?_eq_none h1] at hj; cases hj)
  rw [List.length_map, hl] at hr
  unfold Extern.Bytes.bytesOf
  rw [hr]
  congr 1
  apply ByteArray.ext
  show (#[] : Array UInt8) ++ (Lib.bytesOf (l.map fun d => ((d : Nat) : Int))).toArray = _
  rw [Array.empty_append]
  rfl
theorem bcompare_any (A B : Addr) (c d : Nat) (a b : List Nat) (w : World) (ha : a.length = 32) (hb : b.length = 32) (h1 : ∀ i (hi : i < a.length), w.cell? (A.add i) = some (byt a[i])) (h2 : ∀ i (hi : i < b.length), w.cell? (B.add i) = some (byt b[i])) :
    Calls Tryd.prog 51 #[.slice (some A) 32 c, .slice (some B) 32 d] w (Ex (.int .i64 (Lib.compareBytes (strN a).data.toList (strN b).data.toList)) w) := by
  have hr : (Extern.BytealgCompare.compare #[.slice (some A) 32 c, .slice (some B) 32 d]).run Tryd.prog w = .ok (.int .i64 (Lib.compareBytes (strN a).data.toList (strN b).data.toList)) w := by
    change Sem.run Tryd.prog (do pure (goInt (Extern.BytealgCompare.cmp (← Extern.Bytes.bytesOf (.slice (some A) 32 c)) (← Extern.Bytes.bytesOf (.slice (some B) 32 d))))) w = _
    rw [Sem.run_bind, run_bytesOf_bn A 32 c a w ha h1]
    simp only [Result.andThen]
    rw [Sem.run_bind, run_bytesOf_bn B 32 d b w hb h2]
    simp only [Result.andThen, Sem.run_pure]
    rw [Lib.cmp_eq]
    rfl
  go_enter Tryd.func51, Tryd.ntmps51
  go_wp2_with fail
  rw [run_callFunc_extern Tryd.func62 (by kernel_rfl) (by kernel_rfl) (by kernel_rfl) (e := Extern.BytealgCompare.compare) (by kernel_rfl), hr]
  simp only [Result.andThen]
  rw [Oper.upon_value]
  go_wp2_with fail
  go_ret
  exact ⟨rfl, rfl⟩
theorem brow_bn {w : World} {g : Nat} {t : TypeId} {l : List Nat} (h : Blk w g t (brow l)) : ∀ i (hi : i < l.length), w.cell? ((⟨g, 0, none⟩ : Addr).add i) = some (byt l[i]) := by
  intro i hi
  rw [add_at, Nat.zero_add, h.cell i]
  simp [brow, hi]
set_option maxRecDepth 100000 in
set_option maxHeartbeats 4000000 in
theorem compare_any (a b : List Nat) (w : World) (ha : a.length = 32) (hb : b.length = 32) (ha8 : ∀ x ∈ a, x < 256) (hb8 : ∀ x ∈ b, x < 256) :
    Calls Tryd.prog 26 #[hv a, hv b] w (fun e w' => e = .returned (.int .i64 (cmpN a b)) ∧ Below w.heap.size w w') := by
  obtain ⟨cs, hcs⟩ : ∃ cs, cs = brow a := ⟨_, rfl⟩
  obtain ⟨ds, hds⟩ : ∃ ds, ds = brow b := ⟨_, rfl⟩
  have e1 : hv a = .agg cs := by rw [hcs]; rfl
  have e2 : hv b = .agg ds := by rw [hds]; rfl
  rw [e1, e2]
  have z1 : cs.size = 32 := by rw [hcs, brow_size, ha]
  have z2 : ds.size = 32 := by rw [hds, brow_size, hb]
  have b1 := (Blk.new w 25 cs).alloc (.cells ds 25)
  have b2 := Blk.new (w.alloc (.cells cs 25)) 25 ds
  rw [World.size_alloc] at b2
  have WW := ((Below.refl w.heap.size w).alloc (Nat.le_refl _) (.cells cs 25)).alloc (by simp) (.cells ds 25)
  have HC : Hid (∀ V, Blk V w.heap.size 25 cs → Blk V (w.heap.size + 1) 25 ds → Calls Tryd.prog 51 #[.slice (some ⟨w.heap.size, 0, none⟩) 32 32, .slice (some ⟨w.heap.size + 1, 0, none⟩) 32 32] V (Ex (.int .i64 (cmpN a b)) V)) := by
    intro V h1 h2
    rw [hcs] at h1
    rw [hds] at h2
    have := bcompare_any ⟨w.heap.size, 0, none⟩ ⟨w.heap.size + 1, 0, none⟩ 32 32 a b V ha hb (brow_bn h1) (brow_bn h2)
    rw [cmp_bytes a b ha8 hb8] at this
    exact this
  clear hcs hds e1 e2 ha hb ha8 hb8
  go_enter Tryd.func26, Tryd.ntmps26
  go_wp2_with fail
  generalize hV : (w.alloc (.cells cs 25)).alloc (.cells ds 25) = V at b1 b2 WW ⊢
  clear hV
  have B1 := hid b1
  have B2 := hid b2
  clear b1 b2
  go_quiet (exact Calls.quiet_of_same (HC.out _ B1.out B2.out))
  go_wp2_with fail
  go_ret
  exact ⟨rfl, below_drewN WW _⟩
end Go.Proofs.YtenmdfhdiepfcaaDoor
