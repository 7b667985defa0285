/- The reference: the product. -/
import Derived.Test.YtlhfaaghfhiaoaaRef4
set_option linter.unusedVariables false
set_option linter.unusedSimpArgs false
namespace Go.Proofs.Ytlhfaaghfhiaoaa
open Go.RowKit

set_option maxHeartbeats 4000000 in
theorem rproduct_any (A B' : Option Addr) (n m c d a b : Nat) (w : World) (hA : Num w w.heap.size A n a) (hB : Num w w.heap.size B' m b) (hn : n ≤ 100000) (hm : m ≤ 100000) :
    Calls Try.prog 57 #[.agg #[.slice A n c], .agg #[.slice B' m d]] w (RetNat w.heap.size (a * b) w) := by
  obtain ⟨b0, b1, b2, bw⟩ := boxes3 w (.slice A n c) (.slice B' m d) (.slice none 0 0)
  have HXA := hid (Box.mk b0 hA bw)
  have HXB := hid (Box.mk b1 hB bw)
  have HB2 := hid b2
  have HWW := hid bw
  clear b0 b1 b2 bw hA hB
  obtain ⟨N, HN⟩ := named (n + m + 1)
  have hN1 : N ≤ n + m + 1 := by have := HN.out; omega
  have hN2 : n + m + 1 ≤ N := by have := HN.out; omega
  have hmk : ∀ w, (Instr.makeSlice 22 (.int .i64 ((n : Int) + m + 1)) (.int .i64 ((n : Int) + m + 1))).run Try.prog w = .ok (.slice (some ⟨w.heap.size, 0, none⟩) N N) (w.alloc (.cells (words N 0) 62)) := by
    have e : (n : Int) + m + 1 = (N : Int) := by have := HN.out; omega
    rw [e]
    exact make_words N (by omega)
  have y1 : IntKind.i64.wrap ((n : Int) + (m : Int)) = (n : Int) + (m : Int) := IntWalk.i64_in _ (by omega)
  have y2 : IntKind.i64.wrap ((n : Int) + (m : Int) + 1) = (n : Int) + (m : Int) + 1 := IntWalk.i64_in _ (by omega)
  go_enter Try.func57, Try.ntmps57
  go_wp2_with fail
  have hVs : (((w.alloc (.cells #[.slice A n c] 24)).alloc (.cells #[.slice B' m d] 24)).alloc (.cells #[.slice none 0 0] 24)).heap.size = w.heap.size + 1 + 1 + 1 := by simp
  generalize hV : ((w.alloc (.cells #[.slice A n c] 24)).alloc (.cells #[.slice B' m d] 24)).alloc (.cells #[.slice none 0 0] 24) = V at HXA HXB HB2 HWW hVs ⊢
  clear hV
  have HVS := hid hVs
  clear hVs
  have H0 : Hid (ProdAt V (V.alloc (.cells (words N 0) 62)) N a b 0) := (show ProdAt V (V.alloc (.cells (words N 0) 62)) N a b 0 from ⟨by simpa [Nat.mod_one] using Row.new V N, (Below.refl _ _).alloc (Nat.le_refl _) _⟩)
  have kA := HXA.out.cell
  have kB := HXB.out.cell
  have zA := HXA.out.lt
  have zB := HXB.out.lt
  go_wp2_with fail
  clear hmk y1 y2 zA zB kA kB
  go_loopw [6] (fun i wr => ∃ k : Nat, k ≤ n ∧ i = .int .i64 k ∧ ProdAt V wr N a b k) (fun i _ => n - (intOf i).toNat)
  case atStart => exact ⟨0, by omega, rfl, H0.out⟩
  case round =>
    obtain ⟨k, hk, rfl, hS⟩ := hrel
    have HS := hid hS
    clear H0
    have kA := (HXA.out.below hS.2).cell
    have kB := (HXB.out.below hS.2).cell
    by_cases hlt : k < n
    · have l1 : ((k : Nat) : Int) < ((n : Nat) : Int) := by omega
      have d1 := dig_lt a k
      obtain ⟨ad, rfl, hab, hac⟩ := (HXA.out.num).at_ hlt
      clear hS hac
      go_wp2_with fail
      obtain ⟨wo, hwo⟩ : ∃ wo : World, wo = wr := ⟨_, rfl⟩
      subst hwo
      clear kA kB
      go_loopw [7, 8] (fun cy i wr => ∃ j cc : Nat, j ≤ m ∧ cc ≤ 4294967295 ∧ i = .int .i64 j ∧ cy = .int .u64 cc ∧ ProdIn V wr N a b k m j cc) (fun _ i _ => m - (intOf i).toNat)
      case atStart => exact ⟨0, 0, by omega, by omega, rfl, rfl, HS.out.begin HXB.out.num.lt⟩
      case round =>
        obtain ⟨j, cc, hj, hcc, rfl, rfl, hI⟩ := hrel
        have HI := hid hI
        obtain ⟨s, h1, h2, h3, h4⟩ := hI
        have kA := (HXA.out.below h4).cell
        have kB := (HXB.out.below h4).cell
        by_cases hjm : j < m
        · have l2 : ((j : Nat) : Int) < ((m : Nat) : Int) := by omega
          have hcell := h3.cell (i := k + j) (by omega)
          have hfr := h3.frozen (k + j)
          rw [HVS.out] at hcell hfr
          obtain ⟨bd, rfl, hbb, hbc⟩ := (HXB.out.below h4).num.at_ hjm
          obtain ⟨ad', e, hab', hac⟩ := (HXA.out.below h4).num.at_ hlt
          injection e with e
          subst e
          have d2 := dig_lt b j
          have d3 := dig_lt s (k + j)
          have H3 := hid h3
          obtain ⟨p, hp⟩ : ∃ p : Nat, p = dig a k * dig b j := ⟨_, rfl⟩
          obtain ⟨t, ht⟩ : ∃ t : Nat, t = p + dig s (k + j) := ⟨_, rfl⟩
          obtain ⟨u, hu⟩ : ∃ u : Nat, u = t + cc := ⟨_, rfl⟩
          obtain ⟨r, hr⟩ : ∃ r : Nat, r = u % 4294967296 := ⟨_, rfl⟩
          obtain ⟨q, hq⟩ : ∃ q : Nat, q = u / 4294967296 := ⟨_, rfl⟩
          have hp1 : p ≤ 4294967295 * 4294967295 := by rw [hp]; exact Nat.mul_le_mul (by omega) (by omega)
          have hr1 : r < 4294967296 := by omega
          have hq1 : q ≤ 4294967295 := by omega
          have HE : Hid (r + (q + 0) * 4294967296 = dig a k * dig b j + cc + dig s (k + j)) := by show _ = _; rw [← hp]; omega
          obtain ⟨X, hX⟩ : ∃ X : Int, ((dig a k : Nat) : Int) = X := ⟨_, rfl⟩
          obtain ⟨Y, hY⟩ : ∃ Y : Int, ((dig b j : Nat) : Int) = Y := ⟨_, rfl⟩
          obtain ⟨Z, hZ⟩ : ∃ Z : Int, ((dig s (k + j) : Nat) : Int) = Z := ⟨_, rfl⟩
          have hXY : X * Y = (p : Int) := by rw [← hX, ← hY, hp]; simp
          have x1 : IntKind.u64.wrap X = X := by rw [IntKind.wrap_u64]; omega
          have x2 : IntKind.u64.wrap Y = Y := by rw [IntKind.wrap_u64]; omega
          have x3 : IntKind.u64.wrap Z = Z := by rw [IntKind.wrap_u64]; omega
          have x4 : IntKind.u64.wrap (X * Y) = (p : Int) := by rw [hXY, IntKind.wrap_u64]; omega
          have x5 : IntKind.u64.wrap ((p : Int) + Z) = (t : Int) := by rw [IntKind.wrap_u64]; omega
          have x6 : IntKind.u64.wrap ((t : Int) + (cc : Int)) = (u : Int) := by rw [IntKind.wrap_u64]; omega
          have e1 : (u : Int) % 4294967296 = (r : Int) := by omega
          have e2 : (u : Int) / 4294967296 = (q : Int) := by omega
          have t1 : Int.tmod (u : Int) 4294967296 = (r : Int) := by rw [Int.tmod_eq_emod_of_nonneg (by omega)]; exact e1
          have t3 : Int.tdiv (u : Int) 4294967296 = (q : Int) := by rw [Int.tdiv_eq_ediv_of_nonneg (by omega)]; exact e2
          have x7 : IntKind.u32.wrap (r : Int) = (r : Int) := by rw [IntKind.wrap_u32]; omega
          have x8 : IntKind.u64.wrap (r : Int) = (r : Int) := by rw [IntKind.wrap_u64]; omega
          have x9 : IntKind.u64.wrap (q : Int) = (q : Int) := by rw [IntKind.wrap_u64]; omega
          have k1 : IntKind.i64.wrap ((k : Int) + (j : Int)) = (k : Int) + (j : Int) := IntWalk.i64_in _ (by omega)
          have k2 : (k : Int) + (j : Int) < ((N : Nat) : Int) := by omega
          have k3 : (0 : Int) ≤ (k : Int) + (j : Int) := by omega
          have k4 : ((k : Int) + (j : Int)).toNat = k + j := by omega
          rw [hX] at hac
          rw [hY] at hbc
          rw [hZ] at hcell
          clear h1 h2 h3 h4 hp ht hu hr hq hX hY hZ hXY d2 d3 hp1
          go_wp2_with fail
          refine wp_region_held_drew (S := (fun w' => w'.cell? ⟨w.heap.size, 0, none⟩ = some (.slice (some ad) n c) ∧ w'.cell? ⟨w.heap.size + 1, 0, none⟩ = some (.slice (some bd) m d) ∧ w'.cell? (ad.add k) = some (.int .u32 X) ∧ w'.cell? (bd.add j) = some (.int .u32 Y) ∧ w'.cell? ⟨w.heap.size + 1 + 1 + 1, k + j, none⟩ = some (.int .u32 Z))) (by kernel_rfl) (⟨kA, kB, hac, hbc, hcell⟩) (fun hHeld => ?_)
          refine wpAnyH_take (i := 0) (oi := { dst := some 33, op := Op.fieldAddr 24 (Operand.tmp 2) 0, type := 0, pos := "ref.go:115", after := #[], guard := none }) (v := ?_) rfl (by kernel_rfl) (by kernel_rfl) (by kernel_rfl) (fun _ _ _ h => h) (Or.inl ⟨by rfl, ?_⟩) (by assumption) ?_
          rotate_left
          · (intro ws hSw; (try dsimp only at hSw); (try go_simp); (try with_reducible rfl))
          (try simp only [Act.put, List.setIfInBounds_toArray, List.set_cons_zero, List.set_cons_succ])
          refine wpAnyH_take (i := 1) (oi := { dst := some 34, op := Op.load 22 (Operand.tmp 33), type := 22, pos := "ref.go:115", after := #[{ on := 0, ground := Ground.data }], guard := none }) (v := ?_) rfl (by kernel_rfl) (by kernel_rfl) (by kernel_rfl) (fun _ _ _ h => h) (Or.inl ⟨by rfl, ?_⟩) (by assumption) ?_
          rotate_left
          · (intro ws hSw; (try dsimp only at hSw); (try go_simp); (try with_reducible rfl))
          (try simp only [Act.put, List.setIfInBounds_toArray, List.set_cons_zero, List.set_cons_succ])
          refine wpAnyH_take (i := 2) (oi := { dst := some 35, op := Op.move (Operand.tmp 6), type := 3, pos := "ref.go:115", after := #[], guard := none }) (v := ?_) rfl (by kernel_rfl) (by kernel_rfl) (by kernel_rfl) (fun _ _ _ h => h) (Or.inl ⟨by rfl, ?_⟩) (by assumption) ?_
          rotate_left
          · (intro ws hSw; (try dsimp only at hSw); (try go_simp); (try with_reducible rfl))
          (try simp only [Act.put, List.setIfInBounds_toArray, List.set_cons_zero, List.set_cons_succ])
          refine wpAnyH_take (i := 3) (oi := { dst := some 36, op := Op.indexAddr 22 (Operand.tmp 34) (Operand.tmp 35), type := 0, pos := "ref.go:115", after := #[{ on := 1, ground := Ground.data }, { on := 2, ground := Ground.data }], guard := none }) (v := ?_) rfl (by kernel_rfl) (by kernel_rfl) (by kernel_rfl) (fun _ _ _ h => h) (Or.inl ⟨by rfl, ?_⟩) (by assumption) ?_
          rotate_left
          · (intro ws hSw; (try dsimp only at hSw); (try go_simp); (try with_reducible rfl))
          (try simp only [Act.put, List.setIfInBounds_toArray, List.set_cons_zero, List.set_cons_succ])
          refine wpAnyH_take (i := 4) (oi := { dst := some 37, op := Op.load 62 (Operand.tmp 36), type := 62, pos := "ref.go:115", after := #[{ on := 3, ground := Ground.data }], guard := none }) (v := ?_) rfl (by kernel_rfl) (by kernel_rfl) (by kernel_rfl) (fun _ _ _ h => h) (Or.inl ⟨by rfl, ?_⟩) (by assumption) ?_
          rotate_left
          · (intro ws hSw; (try dsimp only at hSw); (try go_simp); (try with_reducible rfl))
          (try simp only [Act.put, List.setIfInBounds_toArray, List.set_cons_zero, List.set_cons_succ])
          refine wpAnyH_take (i := 5) (oi := { dst := some 38, op := Op.convert 62 56 (Operand.tmp 37), type := 56, pos := "ref.go:115", after := #[{ on := 4, ground := Ground.data }], guard := none }) (v := ?_) rfl (by kernel_rfl) (by kernel_rfl) (by kernel_rfl) (fun _ _ _ h => h) (Or.inl ⟨by rfl, ?_⟩) (by assumption) ?_
          rotate_left
          · (intro ws hSw; (try dsimp only at hSw); (try go_simp); (try with_reducible rfl))
          (try simp only [Act.put, List.setIfInBounds_toArray, List.set_cons_zero, List.set_cons_succ])
          refine wpAnyH_take (i := 6) (oi := { dst := some 39, op := Op.fieldAddr 24 (Operand.tmp 3) 0, type := 0, pos := "ref.go:115", after := #[], guard := none }) (v := ?_) rfl (by kernel_rfl) (by kernel_rfl) (by kernel_rfl) (fun _ _ _ h => h) (Or.inl ⟨by rfl, ?_⟩) (by assumption) ?_
          rotate_left
          · (intro ws hSw; (try dsimp only at hSw); (try go_simp); (try with_reducible rfl))
          (try simp only [Act.put, List.setIfInBounds_toArray, List.set_cons_zero, List.set_cons_succ])
          refine wpAnyH_take (i := 7) (oi := { dst := some 40, op := Op.load 22 (Operand.tmp 39), type := 22, pos := "ref.go:115", after := #[{ on := 6, ground := Ground.data }], guard := none }) (v := ?_) rfl (by kernel_rfl) (by kernel_rfl) (by kernel_rfl) (fun _ _ _ h => h) (Or.inl ⟨by rfl, ?_⟩) (by assumption) ?_
          rotate_left
          · (intro ws hSw; (try dsimp only at hSw); (try go_simp); (try with_reducible rfl))
          (try simp only [Act.put, List.setIfInBounds_toArray, List.set_cons_zero, List.set_cons_succ])
          refine wpAnyH_take (i := 8) (oi := { dst := some 41, op := Op.move (Operand.tmp 8), type := 3, pos := "ref.go:115", after := #[], guard := none }) (v := ?_) rfl (by kernel_rfl) (by kernel_rfl) (by kernel_rfl) (fun _ _ _ h => h) (Or.inl ⟨by rfl, ?_⟩) (by assumption) ?_
          rotate_left
          · (intro ws hSw; (try dsimp only at hSw); (try go_simp); (try with_reducible rfl))
          (try simp only [Act.put, List.setIfInBounds_toArray, List.set_cons_zero, List.set_cons_succ])
          refine wpAnyH_take (i := 9) (oi := { dst := some 42, op := Op.indexAddr 22 (Operand.tmp 40) (Operand.tmp 41), type := 0, pos := "ref.go:115", after := #[{ on := 7, ground := Ground.data }, { on := 8, ground := Ground.data }], guard := none }) (v := ?_) rfl (by kernel_rfl) (by kernel_rfl) (by kernel_rfl) (fun _ _ _ h => h) (Or.inl ⟨by rfl, ?_⟩) (by assumption) ?_
          rotate_left
          · (intro ws hSw; (try dsimp only at hSw); (try go_simp); (try with_reducible rfl))
          (try simp only [Act.put, List.setIfInBounds_toArray, List.set_cons_zero, List.set_cons_succ])
          refine wpAnyH_take (i := 10) (oi := { dst := some 43, op := Op.load 62 (Operand.tmp 42), type := 62, pos := "ref.go:115", after := #[{ on := 9, ground := Ground.data }], guard := none }) (v := ?_) rfl (by kernel_rfl) (by kernel_rfl) (by kernel_rfl) (fun _ _ _ h => h) (Or.inl ⟨by rfl, ?_⟩) (by assumption) ?_
          rotate_left
          · (intro ws hSw; (try dsimp only at hSw); (try go_simp); (try with_reducible rfl))
          (try simp only [Act.put, List.setIfInBounds_toArray, List.set_cons_zero, List.set_cons_succ])
          refine wpAnyH_take (i := 11) (oi := { dst := some 44, op := Op.convert 62 56 (Operand.tmp 43), type := 56, pos := "ref.go:115", after := #[{ on := 10, ground := Ground.data }], guard := none }) (v := ?_) rfl (by kernel_rfl) (by kernel_rfl) (by kernel_rfl) (fun _ _ _ h => h) (Or.inl ⟨by rfl, ?_⟩) (by assumption) ?_
          rotate_left
          · (intro ws hSw; (try dsimp only at hSw); (try go_simp); (try with_reducible rfl))
          (try simp only [Act.put, List.setIfInBounds_toArray, List.set_cons_zero, List.set_cons_succ])
          refine wpAnyH_take (i := 12) (oi := { dst := some 45, op := Op.binOp BinOp.mul 56 (Operand.tmp 38) (Operand.tmp 44) 56, type := 56, pos := "ref.go:115", after := #[{ on := 5, ground := Ground.data }, { on := 11, ground := Ground.data }], guard := none }) (v := ?_) rfl (by kernel_rfl) (by kernel_rfl) (by kernel_rfl) (fun _ _ _ h => h) (Or.inl ⟨by rfl, ?_⟩) (by assumption) ?_
          rotate_left
          · (intro ws hSw; (try dsimp only at hSw); (try go_simp); (try with_reducible rfl))
          (try simp only [Act.put, List.setIfInBounds_toArray, List.set_cons_zero, List.set_cons_succ])
          refine wpAnyH_take (i := 13) (oi := { dst := some 46, op := Op.move (Operand.tmp 5), type := 22, pos := "ref.go:115", after := #[], guard := none }) (v := ?_) rfl (by kernel_rfl) (by kernel_rfl) (by kernel_rfl) (fun _ _ _ h => h) (Or.inl ⟨by rfl, ?_⟩) (by assumption) ?_
          rotate_left
          · (intro ws hSw; (try dsimp only at hSw); (try go_simp); (try with_reducible rfl))
          (try simp only [Act.put, List.setIfInBounds_toArray, List.set_cons_zero, List.set_cons_succ])
          refine wpAnyH_take (i := 14) (oi := { dst := some 47, op := Op.move (Operand.tmp 6), type := 3, pos := "ref.go:115", after := #[], guard := none }) (v := ?_) rfl (by kernel_rfl) (by kernel_rfl) (by kernel_rfl) (fun _ _ _ h => h) (Or.inl ⟨by rfl, ?_⟩) (by assumption) ?_
          rotate_left
          · (intro ws hSw; (try dsimp only at hSw); (try go_simp); (try with_reducible rfl))
          (try simp only [Act.put, List.setIfInBounds_toArray, List.set_cons_zero, List.set_cons_succ])
          refine wpAnyH_take (i := 15) (oi := { dst := some 48, op := Op.move (Operand.tmp 8), type := 3, pos := "ref.go:115", after := #[], guard := none }) (v := ?_) rfl (by kernel_rfl) (by kernel_rfl) (by kernel_rfl) (fun _ _ _ h => h) (Or.inl ⟨by rfl, ?_⟩) (by assumption) ?_
          rotate_left
          · (intro ws hSw; (try dsimp only at hSw); (try go_simp); (try with_reducible rfl))
          (try simp only [Act.put, List.setIfInBounds_toArray, List.set_cons_zero, List.set_cons_succ])
          refine wpAnyH_take (i := 16) (oi := { dst := some 49, op := Op.binOp BinOp.add 3 (Operand.tmp 47) (Operand.tmp 48) 3, type := 3, pos := "ref.go:115", after := #[{ on := 14, ground := Ground.data }, { on := 15, ground := Ground.data }], guard := none }) (v := ?_) rfl (by kernel_rfl) (by kernel_rfl) (by kernel_rfl) (fun _ _ _ h => h) (Or.inl ⟨by rfl, ?_⟩) (by assumption) ?_
          rotate_left
          · (intro ws hSw; (try dsimp only at hSw); (try go_simp); (try with_reducible rfl))
          (try simp only [Act.put, List.setIfInBounds_toArray, List.set_cons_zero, List.set_cons_succ])
          refine wpAnyH_take (i := 17) (oi := { dst := some 50, op := Op.indexAddr 22 (Operand.tmp 46) (Operand.tmp 49), type := 0, pos := "ref.go:115", after := #[{ on := 13, ground := Ground.data }, { on := 16, ground := Ground.data }], guard := none }) (v := ?_) rfl (by kernel_rfl) (by kernel_rfl) (by kernel_rfl) (fun _ _ _ h => h) (Or.inl ⟨by rfl, ?_⟩) (by assumption) ?_
          rotate_left
          · (intro ws hSw; (try dsimp only at hSw); (try go_simp); (try with_reducible rfl))
          (try simp only [Act.put, List.setIfInBounds_toArray, List.set_cons_zero, List.set_cons_succ])
          refine wpAnyH_take (i := 18) (oi := { dst := some 51, op := Op.load 62 (Operand.tmp 50), type := 62, pos := "ref.go:115", after := #[{ on := 17, ground := Ground.data }], guard := none }) (v := ?_) rfl (by kernel_rfl) (by kernel_rfl) (by kernel_rfl) (fun _ _ _ h => h) (Or.inl ⟨by rfl, ?_⟩) (by assumption) ?_
          rotate_left
          · (intro ws hSw; (try dsimp only at hSw); (try go_simp); (try with_reducible rfl))
          (try simp only [Act.put, List.setIfInBounds_toArray, List.set_cons_zero, List.set_cons_succ])
          refine wpAnyH_take (i := 19) (oi := { dst := some 52, op := Op.convert 62 56 (Operand.tmp 51), type := 56, pos := "ref.go:115", after := #[{ on := 18, ground := Ground.data }], guard := none }) (v := ?_) rfl (by kernel_rfl) (by kernel_rfl) (by kernel_rfl) (fun _ _ _ h => h) (Or.inl ⟨by rfl, ?_⟩) (by assumption) ?_
          rotate_left
          · (intro ws hSw; (try dsimp only at hSw); (try go_simp); (try with_reducible rfl))
          (try simp only [Act.put, List.setIfInBounds_toArray, List.set_cons_zero, List.set_cons_succ])
          refine wpAnyH_take (i := 20) (oi := { dst := some 53, op := Op.binOp BinOp.add 56 (Operand.tmp 45) (Operand.tmp 52) 56, type := 56, pos := "ref.go:115", after := #[{ on := 12, ground := Ground.data }, { on := 19, ground := Ground.data }], guard := none }) (v := ?_) rfl (by kernel_rfl) (by kernel_rfl) (by kernel_rfl) (fun _ _ _ h => h) (Or.inl ⟨by rfl, ?_⟩) (by assumption) ?_
          rotate_left
          · (intro ws hSw; (try dsimp only at hSw); (try go_simp); (try with_reducible rfl))
          (try simp only [Act.put, List.setIfInBounds_toArray, List.set_cons_zero, List.set_cons_succ])
          refine wpAnyH_take (i := 21) (oi := { dst := some 54, op := Op.move (Operand.tmp 7), type := 56, pos := "ref.go:115", after := #[], guard := none }) (v := ?_) rfl (by kernel_rfl) (by kernel_rfl) (by kernel_rfl) (fun _ _ _ h => h) (Or.inl ⟨by rfl, ?_⟩) (by assumption) ?_
          rotate_left
          · (intro ws hSw; (try dsimp only at hSw); (try go_simp); (try with_reducible rfl))
          (try simp only [Act.put, List.setIfInBounds_toArray, List.set_cons_zero, List.set_cons_succ])
          refine wpAnyH_take (i := 22) (oi := { dst := some 55, op := Op.binOp BinOp.add 56 (Operand.tmp 53) (Operand.tmp 54) 56, type := 56, pos := "ref.go:115", after := #[{ on := 20, ground := Ground.data }, { on := 21, ground := Ground.data }], guard := none }) (v := ?_) rfl (by kernel_rfl) (by kernel_rfl) (by kernel_rfl) (fun _ _ _ h => h) (Or.inl ⟨by rfl, ?_⟩) (by assumption) ?_
          rotate_left
          · (intro ws hSw; (try dsimp only at hSw); (try go_simp); (try with_reducible rfl))
          (try simp only [Act.put, List.setIfInBounds_toArray, List.set_cons_zero, List.set_cons_succ])
          refine wpAnyH_take (i := 23) (oi := { dst := some 9, op := Op.assign (Operand.tmp 55), type := 56, pos := "ref.go:115", after := #[{ on := 22, ground := Ground.data }, { on := 0, ground := Ground.phase }, { on := 1, ground := Ground.phase }, { on := 2, ground := Ground.phase }, { on := 3, ground := Ground.phase }, { on := 4, ground := Ground.phase }, { on := 5, ground := Ground.phase }, { on := 6, ground := Ground.phase }, { on := 7, ground := Ground.phase }, { on := 8, ground := Ground.phase }, { on := 9, ground := Ground.phase }, { on := 10, ground := Ground.phase }, { on := 11, ground := Ground.phase }, { on := 12, ground := Ground.phase }, { on := 13, ground := Ground.phase }, { on := 14, ground := Ground.phase }, { on := 15, ground := Ground.phase }, { on := 16, ground := Ground.phase }, { on := 17, ground := Ground.phase }, { on := 18, ground := Ground.phase }, { on := 19, ground := Ground.phase }, { on := 20, ground := Ground.phase }, { on := 21, ground := Ground.phase }, { on := 22, ground := Ground.phase }], guard := none }) (v := ?_) rfl (by kernel_rfl) (by kernel_rfl) (by kernel_rfl) (fun _ _ _ h => h) (Or.inl ⟨by rfl, ?_⟩) (by assumption) ?_
          rotate_left
          · (intro ws hSw; (try dsimp only at hSw); (try go_simp); (try with_reducible rfl))
          (try simp only [Act.put, List.setIfInBounds_toArray, List.set_cons_zero, List.set_cons_succ])
          refine wpAnyH_done (by kernel_rfl) ?_ _
          clear hHeld
          have hfr1 : wr.drew.frozen? ⟨w.heap.size + 1 + 1 + 1, k + j, none⟩ = false := hfr
          have hcell1 : wr.drew.cell? ⟨w.heap.size + 1 + 1 + 1, k + j, none⟩ = some (.int .u32 Z) := hcell
          go_wp2_with fail
          go_roundw
          case rel => exact ⟨j + 1, q + 0, by omega, by omega, by go_num, by go_num, by rw [← HVS.out]; exact HI.out.drew.step hjm (by omega) hr1 (fun s' h => by rw [Row.one h H3.out]; exact HE.out)⟩
          case measure => simp [intOf] <;> omega
        · have l2 : ((m : Nat) : Int) ≤ ((j : Nat) : Int) := by omega
          have hcell := h3.cell (i := k + m) (by omega)
          have hfr := h3.frozen (k + m)
          rw [HVS.out] at hcell hfr
          have k1 : IntKind.i64.wrap ((k : Int) + (m : Int)) = (k : Int) + (m : Int) := IntWalk.i64_in _ (by omega)
          have k2 : (k : Int) + (m : Int) < ((N : Nat) : Int) := by omega
          have k3 : (0 : Int) ≤ (k : Int) + (m : Int) := by omega
          have k4 : ((k : Int) + (m : Int)).toNat = k + m := by omega
          have x7 : IntKind.u32.wrap (cc : Int) = (cc : Int) := by rw [IntKind.wrap_u32]; omega
          clear h1 h2 h3 h4
          go_wp2_with fail
          go_roundw
          case rel => exact ⟨k + 1, by omega, by go_num, by rw [← HVS.out]; exact HI.out.done (by omega) hj (by omega) HXB.out.num.lt (by omega)⟩
          case measure => simp [intOf] <;> omega
    · obtain rfl : k = n := by omega
      have l1 : decide (((k : Nat) : Int) < ((k : Nat) : Int)) = false := by simp
      obtain ⟨h3, h4⟩ := hS
      rw [Nat.mod_eq_of_lt HXA.out.num.lt] at h3
      have HR := hid h3
      have HBL := hid h4
      have HNM := hid (h3.num h3.blk)
      rw [HVS.out] at HNM
      clear h3 h4
      go_wp2_with fail
      refine (rtrim_any _ N N (a * b) _ wr HNM.out (Nat.le_refl _) (by omega) (Nat.le_refl _)).mono ?_
      rintro e w9 ⟨v, rfl, ⟨A', c', rfl, ho⟩, hb⟩
      have HBW := hid (HBL.out.trans (hb.mono HBL.out.size))
      have HO9 := hid (ho.weak (b := w.heap.size) (Nat.le_trans HWW.out.size HBL.out.size))
      have B9 := hid (HB2.out.below HBW.out HB2.out.lt)
      have W9 := hid (HWW.out.trans (HBW.out.mono HWW.out.size))
      have cB := B9.out.cell0
      have fB := B9.out.frozen 0
      clear hb ho
      go_wp2_with fail
      have ho2 := HO9.out.box (p := ⟨w.heap.size + 1 + 1, 0, none⟩) B9.out (by decide) (.slice A' (nw (a * b)) c')
      exact bodyPost_ret (v := .agg #[.slice A' (nw (a * b)) c']) (by simp [results, Try.results57, go_sem, cB]) rfl ⟨_, rfl, ⟨A', c', rfl, ho2⟩, W9.out.setCell (by simp <;> omega) _⟩

end Go.Proofs.Ytlhfaaghfhiaoaa
