/- Texts read as digests: the plain side. -/
import Derived.Test.YtenmdfhdiepfcaaDoorLTx2
import Derived.Test.YtenmdfhdiepfcaaDoorShelf
set_option linter.unusedVariables false
set_option linter.unusedSimpArgs false
namespace Go.Proofs.YtenmdfhdiepfcaaDoor
open Go Go.RowKit
/-- Byte k of a text. -/
def tx (s : ByteArray) (k : Nat) : Nat := (s.data.toList.map UInt8.toNat).getD k 0
theorem tx_lt (s : ByteArray) (k : Nat) : tx s k < 256 := by
  unfold tx
  rw [List.getD_eq_getElem?_getD, List.getElem?_map]
  cases s.data.toList[k]? with
  | none => simp
  | some c => exact c.toNat_lt
theorem index_tx (s : ByteArray) (k : Nat) (h : k < s.size) (w : World) : (Instr.index 9 (.string s) (.int .i64 ((k : Nat) : Int))).run Tryd.prog w = .ok (.int .u8 ((tx s k : Nat) : Int)) w := by
  rw [run_index_string w 9 _ .i64 _ Tryd.underlying9, dif_pos (by omega)]
  congr 3
  have h2 : k < s.data.toList.length := by simpa using h
  unfold tx
  rw [List.getD_eq_getElem?_getD, List.getElem?_map, List.getElem?_eq_getElem h2]
  rfl
theorem index_dgt : ∀ n : Fin 256, Lib.indexByte [48, 49, 50, 51, 52, 53, 54, 55, 56, 57, 97, 98, 99, 100, 101, 102] n.val.toUInt8 = dgt n.val := by decide +kernel
/-- What the digits in front of k give at byte i. -/
def pb (s : ByteArray) (k i : Nat) : Nat := if 2 * i + 1 < k then (dgt (tx s (2 * i))).toNat * 16 + (dgt (tx s (2 * i + 1))).toNat else if 2 * i < k then (dgt (tx s (2 * i))).toNat else 0
def pk (s : ByteArray) (k : Nat) : List Nat := (List.range 32).map (pb s k)
theorem pk_len (s : ByteArray) (k : Nat) : (pk s k).length = 32 := by simp [pk]
theorem pk_getD (s : ByteArray) (k i : Nat) (h : i < 32) : (pk s k).getD i 0 = pb s k i := by
  simp [pk, List.getD_eq_getElem?_getD, h]
theorem pk_zero (s : ByteArray) : pk s 0 = List.replicate 32 0 := by
  apply List.ext_getElem
  · simp [pk]
  · intro i h1 h2
    rw [List.getElem_replicate]
    simp [pk, pb]
theorem pb_lt (s : ByteArray) (k i : Nat) : pb s k i < 256 := by
  have := dgt_hi (tx s (2 * i)); have := dgt_hi (tx s (2 * i + 1))
  unfold pb
  split
  · omega
  · split <;> omega
theorem pk_lt (s : ByteArray) (k : Nat) : ∀ x ∈ pk s k, x < 256 := by
  intro x hx
  obtain ⟨i, _, rfl⟩ := List.mem_map.1 hx
  exact pb_lt s k i
theorem pk_set (s : ByteArray) {k : Nat} (h : k < 64) (x : Nat) (hx : x = pb s (k + 1) (k / 2)) : (pk s k).set (k / 2) x = pk s (k + 1) := by
  apply List.ext_getElem
  · simp [pk]
  · intro i h1 h2
    rw [List.getElem_set]
    by_cases hi : k / 2 = i
    · rw [if_pos hi, hx]; simp [pk, hi]
    · rw [if_neg hi]
      simp only [pk, List.getElem_map, List.getElem_range]
      unfold pb
      by_cases h3 : 2 * i + 1 < k
      · rw [if_pos h3, if_pos (by omega)]
      · rw [if_neg h3, if_neg (show ¬ 2 * i < k by omega), if_neg (by omega), if_neg (by omega)]
theorem pb_next (s : ByteArray) {k : Nat} (h : k < 64) : pb s k (k / 2) * 16 + (dgt (tx s k)).toNat = pb s (k + 1) (k / 2) := by
  unfold pb
  rcases Nat.mod_two_eq_zero_or_one k with h2 | h2
  · rw [if_neg (by omega), if_neg (by omega), if_neg (by omega), if_pos (by omega), show 2 * (k / 2) = k by omega]
    omega
  · rw [if_neg (by omega), if_pos (by omega), if_pos (by omega), show 2 * (k / 2) + 1 = k by omega]
theorem pk_two (s : ByteArray) {i : Nat} (h : i < 32) : (pk s (2 * i)).set i ((dgt (tx s (2 * i))).toNat * 16 + (dgt (tx s (2 * i + 1))).toNat) = pk s (2 * (i + 1)) := by
  apply List.ext_getElem
  · simp [pk]
  · intro j h1 h2
    rw [List.getElem_set]
    by_cases hi : i = j
    · subst hi
      rw [if_pos rfl]
      simp only [pk, List.getElem_map, List.getElem_range]
      unfold pb
      rw [if_pos (by omega)]
    · rw [if_neg hi]
      simp only [pk, List.getElem_map, List.getElem_range]
      unfold pb
      by_cases h3 : 2 * j + 1 < 2 * i
      · rw [if_pos h3, if_pos (by omega)]
      · rw [if_neg h3, if_neg (by omega), if_neg (by omega), if_neg (by omega)]
/-- A text is that of a digest. -/
def okT (s : ByteArray) : Prop := s.size = 64 ∧ ∀ j, j < 64 → 0 ≤ dgt (tx s j)
theorem dgt_sym : ∀ y : Fin 16, dgt (sym y.val) = ((y.val : Nat) : Int) := by decide +kernel
theorem sym_dgt : ∀ c : Fin 256, 0 ≤ dgt c.val → sym (dgt c.val).toNat = c.val := by decide +kernel
def zl : List Nat := List.replicate 32 0
theorem b32_zl : b32 = brow zl := rfl
theorem b32_size : b32.size = 32 := by rw [b32_zl, brow_size]; rfl
theorem results_cell_tmp {P : Program} {fn : Func} {p q : Tmp} {ty : TypeId} (h : fn.results = #[.cell p ty, .tmp q]) (tmps : Array Value) (w : World) (g : Nat) (t : TypeId) (cs : Array Value) (fr : Nat × Nat) (d : TypeDesc) (v : Value)
    (hp : tmps.getD p undef = .pointer (some ⟨g, 0, none⟩)) (hq : tmps.getD q undef = v) (hg : w.heap[g]? = some (.cells cs t fr))
    (hu : P.underlying ty = some d) (hd : (match d with | .struct _ | .array _ _ => true | _ => false) = true) (hi : (P.info? ty).map (·.size) = some cs.size) :
    (results fn tmps).run P w = .ok (.tuple #[.agg cs, v]) w := by
  have hp' : tmps[p]?.getD undef = .pointer (some ⟨g, 0, none⟩) := by simpa using hp
  have hq' : tmps[q]?.getD undef = v := by simpa using hq
  simp [results, h, hp', hq', asAddr, run_loadVar_row w g t ty cs fr d hg hu hd hi]
set_option maxRecDepth 100000 in
set_option maxHeartbeats 4000000 in
theorem ref_parse (s : ByteArray) (w : World) (r : List Nat) (b : Bool) (Hok : okT s → r = pk s 64 ∧ b = true) (Hno : ¬ okT s → r = zl ∧ b = false) :
    Calls Tryd.prog 28 #[.string s] w (fun e w' => e = .returned (.tuple #[hv r, .bool b]) ∧ Below w.heap.size w w') := by
  have hz := (zero_of_info info25).1
  rw [brow_zero] at hz
  replace hz : ∀ w, (zeroValue 25).run Tryd.prog w = .ok (.agg b32) w := hz
  have b1 := (Blk.new w 25 b32).alloc (.cells b32 25)
  have b2 := Blk.new (w.alloc (.cells b32 25)) 25 b32
  have WW := ((Below.refl w.heap.size w).alloc (Nat.le_refl _) (.cells b32 25)).alloc (by simp) (.cells b32 25)
  simp only [World.size_alloc] at b2
  have HHok := hid Hok
  have HHno := hid Hno
  clear Hok Hno
  by_cases h64 : s.size = 64
  · have hs1 : (((s.size : Nat) : Int) != 64) = false := by rw [h64]; rfl
    have HS := hid h64
    clear h64
    have HDG : Hid (∀ k V, Calls Tryd.prog 52 #[.int .u8 ((tx s k : Nat) : Int)] V (Ret (.int .i64 (dgt (tx s k))) V)) := (show ∀ k V, _ from fun k V => ref_digit _ V (tx_lt s k))
    go_enter Tryd.func28, Tryd.ntmps28
    refine wp_seq_k (fun K1 hK1 => ?_)
    have HK1 := hid hK1
    clear hK1
    go_wp2_with fail
    refine HK1.out _ _ ?_
    clear HK1
    refine wp_seq_k (fun K2 hK2 => ?_)
    have HK2 := hid hK2
    clear hK2
    go_wp2_with fail
    refine HK2.out _ _ ?_
    clear HK2
    generalize hV : (w.alloc (.cells b32 25)).alloc (.cells b32 25) = V0 at b1 b2 WW ⊢
    clear hV
    refine wp_seq_k (fun K3 hK3 => ?_)
    have HK3 := hid hK3
    clear hK3
    go_wp2_with fail
    refine HK3.out _ _ ?_
    clear HK3
    refine wp_seq_k (fun K4 hK4 => ?_)
    have HK4 := hid hK4
    clear hK4
    go_wp2_with fail
    rw [b32_zl, zl, ← pk_zero s] at b2
    go_loopw [5] (fun i wr => ∃ k : Nat, k ≤ 64 ∧ i = .int .i64 ((k : Nat) : Int) ∧ (∀ j, j < k → 0 ≤ dgt (tx s j)) ∧ Below w.heap.size w wr ∧ Blk wr w.heap.size 25 b32 ∧ Blk wr (w.heap.size + 1) 25 (brow (pk s k))) (fun i wr => 64 - (intOf i).toNat)
    case atStart => exact ⟨0, by omega, rfl, fun j hj => by omega, WW, b1, b2⟩
    case round =>
      clear WW b1 b2
      obtain ⟨k, hk, rfl, hall, WW, b1, b2⟩ := hrel
      have HALL := hid hall
      clear hall
      by_cases hlt : k < 64
      · have hix : ∀ w', (Instr.index 9 (.string s) (.int .i64 ((k : Nat) : Int))).run Tryd.prog w' = .ok (.int .u8 ((tx s k : Nat) : Int)) w' := fun w' => index_tx s k (by rw [HS.out]; exact hlt) w'
        have hd := HDG.out k
        have HD := hid hd
        clear hd
        have d1 := dgt_lo (tx s k)
        have d2 := dgt_hi (tx s k)
        have HP := hid (pb_next s hlt)
        have HPS : Hid (∀ x, x = pb s (k + 1) (k / 2) → (pk s k).set (k / 2) x = pk s (k + 1)) := (show ∀ x, _ from fun x hx => pk_set s hlt x hx)
        have hr3 := b2.readb (i := k / 2) (by rw [pk_len]; omega)
        rw [pk_getD s k (k / 2) (by omega)] at hr3
        have hf3 := b2.frozen (k / 2)
        have hpb := pb_lt s (k + 1) (k / 2)
        by_cases hneg : dgt (tx s k) < 0
        · have hno := HHno.out (fun h => by have := h.2 k hlt; omega)
          obtain ⟨rfl, rfl⟩ := hno
          clear HHok HHno HDG HP HPS hr3 hf3 hpb HALL
          refine wp_seq_k (fun A1 hA1 => ?_)
          have HA1 := hid hA1
          clear hA1
          go_wp2_with fail
          refine HA1.out _ _ ?_
          clear HA1
          refine wp_seq_k (fun A2 hA2 => ?_)
          have HA2 := hid hA2
          clear hA2
          refine wp_block ?_
          refine wp_seq_k (fun A3 hA3 => ?_)
          have HA3 := hid hA3
          clear hA3
          generalize dgt (tx s k) = dd at HD d1 d2 hneg
          generalize tx s k = c at hix HD
          go_wp2_with fail
          refine (HD.out _).mono ?_
          rintro e w' ⟨rfl, n1, rfl⟩
          go_wp2_with fail
          refine HA3.out _ _ ?_
          clear HA3
          refine wp_seq_k (fun A4 hA4 => ?_)
          have HA4 := hid hA4
          clear hA4
          refine wp_seq_k (fun A5 hA5 => ?_)
          have HA5 := hid hA5
          clear hA5
          go_wp2_with fail
          refine HA5.out _ _ ?_
          clear HA5
          refine wp_cond_true rfl ?_
          replace b1 := b1.drewN n1
          replace WW := below_drewN WW n1
          refine wp_seq_k (fun A6 hA6 => ?_)
          refine wp_region_lit ?_
          refine list_take (v := .agg b32) (S := fun _ => True) (Or.inl ⟨by rfl, fun ws _ => by go_simp⟩) trivial ?_
          refine wpList_store_row rfl 25 (.tmp 2) (.tmp 21) rfl w.heap.size b32 rfl rfl 25 _ b1 (by rw [b32_size]; kernel_rfl) (by rfl) (brow_one _) ?_
          go_wp2_with fail
          exact bodyPost_ret (v := .tuple #[hv zl, .bool false]) (results_cell_tmp rfl _ _ w.heap.size 25 b32 (0, 0) _ _ rfl rfl (b1.setRow_ _) Tryd.underlying25 rfl (by rw [b32_size]; kernel_rfl)) rfl ⟨rfl, below_setRow_ WW (by omega) _⟩
        · have HDN : Hid (0 ≤ dgt (tx s k)) := (show 0 ≤ _ by omega)
          obtain ⟨d, hd⟩ : ∃ d : Nat, dgt (tx s k) = ((d : Nat) : Int) := ⟨(dgt (tx s k)).toNat, by omega⟩
          rw [hd] at HD d1 d2 hneg HP
          clear hd
          generalize tx s k = c at hix HD
          generalize pb s k (k / 2) = x at hr3 HP
          obtain ⟨y, hy⟩ : ∃ y, y = x * 16 + d := ⟨_, rfl⟩
          have hyp : y = pb s (k + 1) (k / 2) := by rw [hy, ← HP.out]; simp
          have hset := hid (HPS.out y hyp)
          rw [← hyp] at hpb
          have v1 : ((x : Nat) : Int) * 16 + ((d : Nat) : Int) = ((y : Nat) : Int) := by omega
          have v2 : IntKind.u8.wrap (((x : Nat) : Int) * 16) = ((x : Nat) : Int) * 16 := by rw [IntKind.wrap_u8]; omega
          have v3 : IntKind.u8.wrap ((d : Nat) : Int) = ((d : Nat) : Int) := by rw [IntKind.wrap_u8]; omega
          have v4 : IntKind.u8.wrap ((y : Nat) : Int) = ((y : Nat) : Int) := by rw [IntKind.wrap_u8]; omega
          have v5 : ((d : Nat) : Int) % 256 = ((d : Nat) : Int) := by omega
          have v6 : (((x : Nat) : Int) * 16) % 256 = ((x : Nat) : Int) * 16 := by omega
          have v7 : ((y : Nat) : Int) % 256 = ((y : Nat) : Int) := by omega
          clear hy hyp HP HPS HDG hneg
          go_wp2_with fail
          refine (HD.out _).mono ?_
          rintro e w' ⟨rfl, n1, rfl⟩
          go_wp2_with fail
          go_roundw
          case rel =>
            refine ⟨k + 1, by omega, rfl, fun j hj => ?_, (below_drewN WW n1).setCell (by simp <;> omega) _, (b1.drewN n1).far (by simp <;> omega) _, (b2.drewN n1).putb hset.out⟩
            rcases Nat.lt_or_ge j k with h | h
            · exact HALL.out j h
            · rw [show j = k by omega]; exact HDN.out
          case measure => simp [intOf] <;> omega
      · have hk2 : k = 64 := by omega
        subst hk2
        have hok := HHok.out ⟨HS.out, HALL.out⟩
        obtain ⟨rfl, rfl⟩ := hok
        clear HHok HHno HDG HALL
        go_wp2_with fail
        refine HK4.out _ _ ?_
        clear HK4
        refine wp_seq_k (fun A6 hA6 => ?_)
        refine wp_region_lit ?_
        refine wpList_load_row rfl 25 (.tmp 4) rfl _ rfl 25 _ (0, 0) _ b2 Tryd.underlying25 rfl (by rw [brow_size, pk_len]; kernel_rfl) ?_
        refine wpList_store_row rfl 25 (.tmp 2) (.tmp 33) rfl w.heap.size (brow (pk s 64)) rfl rfl 25 _ b1 (by rw [brow_size, pk_len]; kernel_rfl) (by rw [brow_size, pk_len, b32_size]) (brow_one _) ?_
        go_wp2_with fail
        exact bodyPost_ret (v := .tuple #[hv (pk s 64), .bool true]) (results_cell_tmp rfl _ _ w.heap.size 25 (brow (pk s 64)) (0, 0) _ _ rfl rfl (b1.setRow_ _) Tryd.underlying25 rfl (by rw [brow_size, pk_len]; kernel_rfl)) rfl ⟨rfl, below_setRow_ WW (by omega) _⟩
  · have hno := HHno.out (fun h => h64 h.1)
    obtain ⟨rfl, rfl⟩ := hno
    clear HHok HHno
    have hs1 : (((s.size : Nat) : Int) != 64) = true := by simp; omega
    clear h64
    go_enter Tryd.func28, Tryd.ntmps28
    refine wp_seq_k (fun K1 hK1 => ?_)
    have HK1 := hid hK1
    clear hK1
    go_wp2_with fail
    refine HK1.out _ _ ?_
    clear HK1
    refine wp_seq_k (fun K2 hK2 => ?_)
    have HK2 := hid hK2
    clear hK2
    go_wp2_with fail
    refine HK2.out _ _ ?_
    clear HK2
    generalize hV : (w.alloc (.cells b32 25)).alloc (.cells b32 25) = V0 at b1 b2 WW ⊢
    clear hV
    refine wp_seq_k (fun K3 hK3 => ?_)
    have HK3 := hid hK3
    clear hK3
    refine wp_seq_k (fun K4 hK4 => ?_)
    have HK4 := hid hK4
    clear hK4
    go_wp2_with fail
    refine HK4.out _ _ ?_
    clear HK4
    refine wp_cond_true rfl ?_
    refine wp_seq_k (fun A6 hA6 => ?_)
    refine wp_region_lit ?_
    refine wpList_load_row rfl 25 (.tmp 4) rfl _ rfl 25 _ (0, 0) _ b2 Tryd.underlying25 rfl (by rw [b32_size]; kernel_rfl) ?_
    refine wpList_store_row rfl 25 (.tmp 2) (.tmp 10) rfl w.heap.size b32 rfl rfl 25 _ b1 (by rw [b32_size]; kernel_rfl) (by rfl) (brow_one _) ?_
    go_wp2_with fail
    exact bodyPost_ret (v := .tuple #[hv zl, .bool false]) (results_cell_tmp rfl _ _ w.heap.size 25 b32 (0, 0) _ _ rfl rfl (b1.setRow_ _) Tryd.underlying25 rfl (by rw [b32_size]; kernel_rfl)) rfl ⟨rfl, below_setRow_ WW (by omega) _⟩
end Go.Proofs.YtenmdfhdiepfcaaDoor
