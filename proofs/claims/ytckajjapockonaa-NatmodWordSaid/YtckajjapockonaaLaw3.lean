/- few and first, for any bound and any number of residues. -/
import Derived.Test.YtckajjapockonaaFirst
import Derived.Test.YtckajjapockonaaVb
set_option linter.unusedVariables false
set_option linter.unusedSimpArgs false
namespace Go.Proofs.Ytckajjapockonaa
open Go.RowKit

theorem indexo_48 (p : Nat → Bool) (g k cp : Nat) (b : Nat) (A : Nat → Option Addr) (N C : Nat → Nat) (w : World) (O : Option Addr) (hO : 0 < k → O = some ⟨g, 0, none⟩) (hN : 0 < k → Nats w w.heap.size g k A N C) (hk : k ≤ 100)
    (hf : ∀ i, i < k → ∀ wr, Below w.heap.size w wr → Calls Try.prog 48 #[.agg #[.slice (A i) (N i) (C i)], .pointer (some ⟨b, 0, none⟩)] wr (RetB (.bool (p i)) wr)) :
    Calls Try.prog 81 #[.slice O k cp, .func (.func 48) #[] #[.pointer (some ⟨b, 0, none⟩)]] w (RetIdx (anyB k p) w) := by
  have HN := hid hN
  have HFF := hid hf
  clear hN hf
  go_enter Try.func81, Try.ntmps81
  go_wp2_with fail
  go_loopw [8] (fun i wr => ∃ j : Nat, j ≤ k ∧ i = .int .i64 j ∧ (∀ i, i < j → p i = false) ∧ Below w.heap.size w wr) (fun i _ => k - (intOf i).toNat)
  case atStart => exact ⟨0, by omega, rfl, fun i hi => by omega, Below.refl _ _⟩
  case round =>
    obtain ⟨j, hj, rfl, hI, hb⟩ := hrel
    have HI := hid hI
    have HB := hid hb
    clear hI hb
    by_cases hlt : j < k
    · obtain rfl := hO (by omega)
      obtain ⟨g1, g2⟩ := ((HN.out (by omega)).below HB.out).2 j hlt
      have hr := HFF.out j hlt wr HB.out
      cases hp : p j
      · rw [hp] at hr
        have HR := hid hr
        have HP := hid hp
        clear hr hp
        go_wp2_with fail
        refine HR.out.mono ?_
        rintro e w1 ⟨rfl, hb⟩
        have HB1 := hid (HB.out.trans (hb.mono HB.out.size))
        clear hb
        go_wp2_with fail
        go_roundw
        case rel => exact ⟨j + 1, by omega, by go_num, fun i hi => by
          by_cases e : i = j
          · subst e; exact HP.out
          · exact HI.out i (by omega), HB1.out⟩
        case measure => simp [intOf] <;> omega
      · rw [hp] at hr
        have HR := hid hr
        have HF := hid (anyB_yes hlt hp)
        clear hr hp
        go_wp2_with fail
        refine HR.out.mono ?_
        rintro e w1 ⟨rfl, hb⟩
        have HB1 := hid (HB.out.trans (hb.mono HB.out.size))
        clear hb
        go_wp2_with fail
        go_ret
        exact ⟨_, rfl, by rw [HF.out]; simp, HB1.out⟩
    · have HF : Hid (anyB k p = false) := anyB_no fun i hi => HI.out i (by omega)
      go_wp2_with fail
      go_ret
      exact ⟨_, rfl, by rw [HF.out]; simp, HB.out⟩
theorem containso_48 (p : Nat → Bool) (g k cp : Nat) (b : Nat) (A : Nat → Option Addr) (N C : Nat → Nat) (w : World) (O : Option Addr) (hO : 0 < k → O = some ⟨g, 0, none⟩) (hN : 0 < k → Nats w w.heap.size g k A N C) (hk : k ≤ 100)
    (hf : ∀ i, i < k → ∀ wr, Below w.heap.size w wr → Calls Try.prog 48 #[.agg #[.slice (A i) (N i) (C i)], .pointer (some ⟨b, 0, none⟩)] wr (RetB (.bool (p i)) wr)) :
    Calls Try.prog 47 #[.slice O k cp, .func (.func 48) #[] #[.pointer (some ⟨b, 0, none⟩)]] w (RetB (.bool (anyB k p)) w) := by
  have H := hid (indexo_48 p g k cp b A N C w O hO hN hk hf)
  clear hN hf
  go_enter Try.func47, Try.ntmps47
  go_wp2_with fail
  refine H.out.mono ?_
  rintro e w1 ⟨z, rfl, hz, hb⟩
  have HZ := hid hz
  have HB := hid hb
  clear hz hb
  go_wp2_with fail
  go_ret
  rw [← HZ.out]
  exact ⟨rfl, HB.out⟩

theorem indexo_53 (p : Nat → Bool) (g k cp : Nat)  (A : Nat → Option Addr) (N C : Nat → Nat) (w : World) (O : Option Addr) (hO : 0 < k → O = some ⟨g, 0, none⟩) (hN : 0 < k → Nats w w.heap.size g k A N C) (hk : k ≤ 100)
    (hf : ∀ i, i < k → ∀ wr, Below w.heap.size w wr → Calls Try.prog 53 #[.agg #[.slice (A i) (N i) (C i)]] wr (RetB (.bool (p i)) wr)) :
    Calls Try.prog 81 #[.slice O k cp, .func (.func 53) #[] #[]] w (RetIdx (anyB k p) w) := by
  have HN := hid hN
  have HFF := hid hf
  clear hN hf
  go_enter Try.func81, Try.ntmps81
  go_wp2_with fail
  go_loopw [8] (fun i wr => ∃ j : Nat, j ≤ k ∧ i = .int .i64 j ∧ (∀ i, i < j → p i = false) ∧ Below w.heap.size w wr) (fun i _ => k - (intOf i).toNat)
  case atStart => exact ⟨0, by omega, rfl, fun i hi => by omega, Below.refl _ _⟩
  case round =>
    obtain ⟨j, hj, rfl, hI, hb⟩ := hrel
    have HI := hid hI
    have HB := hid hb
    clear hI hb
    by_cases hlt : j < k
    · obtain rfl := hO (by omega)
      obtain ⟨g1, g2⟩ := ((HN.out (by omega)).below HB.out).2 j hlt
      have hr := HFF.out j hlt wr HB.out
      cases hp : p j
      · rw [hp] at hr
        have HR := hid hr
        have HP := hid hp
        clear hr hp
        go_wp2_with fail
        refine HR.out.mono ?_
        rintro e w1 ⟨rfl, hb⟩
        have HB1 := hid (HB.out.trans (hb.mono HB.out.size))
        clear hb
        go_wp2_with fail
        go_roundw
        case rel => exact ⟨j + 1, by omega, by go_num, fun i hi => by
          by_cases e : i = j
          · subst e; exact HP.out
          · exact HI.out i (by omega), HB1.out⟩
        case measure => simp [intOf] <;> omega
      · rw [hp] at hr
        have HR := hid hr
        have HF := hid (anyB_yes hlt hp)
        clear hr hp
        go_wp2_with fail
        refine HR.out.mono ?_
        rintro e w1 ⟨rfl, hb⟩
        have HB1 := hid (HB.out.trans (hb.mono HB.out.size))
        clear hb
        go_wp2_with fail
        go_ret
        exact ⟨_, rfl, by rw [HF.out]; simp, HB1.out⟩
    · have HF : Hid (anyB k p = false) := anyB_no fun i hi => HI.out i (by omega)
      go_wp2_with fail
      go_ret
      exact ⟨_, rfl, by rw [HF.out]; simp, HB.out⟩
theorem containso_53 (p : Nat → Bool) (g k cp : Nat)  (A : Nat → Option Addr) (N C : Nat → Nat) (w : World) (O : Option Addr) (hO : 0 < k → O = some ⟨g, 0, none⟩) (hN : 0 < k → Nats w w.heap.size g k A N C) (hk : k ≤ 100)
    (hf : ∀ i, i < k → ∀ wr, Below w.heap.size w wr → Calls Try.prog 53 #[.agg #[.slice (A i) (N i) (C i)]] wr (RetB (.bool (p i)) wr)) :
    Calls Try.prog 47 #[.slice O k cp, .func (.func 53) #[] #[]] w (RetB (.bool (anyB k p)) w) := by
  have H := hid (indexo_53 p g k cp  A N C w O hO hN hk hf)
  clear hN hf
  go_enter Try.func47, Try.ntmps47
  go_wp2_with fail
  refine H.out.mono ?_
  rintro e w1 ⟨z, rfl, hz, hb⟩
  have HZ := hid hz
  have HB := hid hb
  clear hz hb
  go_wp2_with fail
  go_ret
  rw [← HZ.out]
  exact ⟨rfl, HB.out⟩

theorem indexo_54 (p : Nat → Bool) (g k cp : Nat) (b : Nat) (A : Nat → Option Addr) (N C : Nat → Nat) (w : World) (O : Option Addr) (hO : 0 < k → O = some ⟨g, 0, none⟩) (hN : 0 < k → Nats w w.heap.size g k A N C) (hk : k ≤ 100)
    (hf : ∀ i, i < k → ∀ wr, Below w.heap.size w wr → Calls Try.prog 54 #[.agg #[.slice (A i) (N i) (C i)], .pointer (some ⟨b, 0, none⟩)] wr (RetB (.bool (p i)) wr)) :
    Calls Try.prog 81 #[.slice O k cp, .func (.func 54) #[] #[.pointer (some ⟨b, 0, none⟩)]] w (RetIdx (anyB k p) w) := by
  have HN := hid hN
  have HFF := hid hf
  clear hN hf
  go_enter Try.func81, Try.ntmps81
  go_wp2_with fail
  go_loopw [8] (fun i wr => ∃ j : Nat, j ≤ k ∧ i = .int .i64 j ∧ (∀ i, i < j → p i = false) ∧ Below w.heap.size w wr) (fun i _ => k - (intOf i).toNat)
  case atStart => exact ⟨0, by omega, rfl, fun i hi => by omega, Below.refl _ _⟩
  case round =>
    obtain ⟨j, hj, rfl, hI, hb⟩ := hrel
    have HI := hid hI
    have HB := hid hb
    clear hI hb
    by_cases hlt : j < k
    · obtain rfl := hO (by omega)
      obtain ⟨g1, g2⟩ := ((HN.out (by omega)).below HB.out).2 j hlt
      have hr := HFF.out j hlt wr HB.out
      cases hp : p j
      · rw [hp] at hr
        have HR := hid hr
        have HP := hid hp
        clear hr hp
        go_wp2_with fail
        refine HR.out.mono ?_
        rintro e w1 ⟨rfl, hb⟩
        have HB1 := hid (HB.out.trans (hb.mono HB.out.size))
        clear hb
        go_wp2_with fail
        go_roundw
        case rel => exact ⟨j + 1, by omega, by go_num, fun i hi => by
          by_cases e : i = j
          · subst e; exact HP.out
          · exact HI.out i (by omega), HB1.out⟩
        case measure => simp [intOf] <;> omega
      · rw [hp] at hr
        have HR := hid hr
        have HF := hid (anyB_yes hlt hp)
        clear hr hp
        go_wp2_with fail
        refine HR.out.mono ?_
        rintro e w1 ⟨rfl, hb⟩
        have HB1 := hid (HB.out.trans (hb.mono HB.out.size))
        clear hb
        go_wp2_with fail
        go_ret
        exact ⟨_, rfl, by rw [HF.out]; simp, HB1.out⟩
    · have HF : Hid (anyB k p = false) := anyB_no fun i hi => HI.out i (by omega)
      go_wp2_with fail
      go_ret
      exact ⟨_, rfl, by rw [HF.out]; simp, HB.out⟩
theorem containso_54 (p : Nat → Bool) (g k cp : Nat) (b : Nat) (A : Nat → Option Addr) (N C : Nat → Nat) (w : World) (O : Option Addr) (hO : 0 < k → O = some ⟨g, 0, none⟩) (hN : 0 < k → Nats w w.heap.size g k A N C) (hk : k ≤ 100)
    (hf : ∀ i, i < k → ∀ wr, Below w.heap.size w wr → Calls Try.prog 54 #[.agg #[.slice (A i) (N i) (C i)], .pointer (some ⟨b, 0, none⟩)] wr (RetB (.bool (p i)) wr)) :
    Calls Try.prog 47 #[.slice O k cp, .func (.func 54) #[] #[.pointer (some ⟨b, 0, none⟩)]] w (RetB (.bool (anyB k p)) w) := by
  have H := hid (indexo_54 p g k cp b A N C w O hO hN hk hf)
  clear hN hf
  go_enter Try.func47, Try.ntmps47
  go_wp2_with fail
  refine H.out.mono ?_
  rintro e w1 ⟨z, rfl, hz, hb⟩
  have HZ := hid hz
  have HB := hid hb
  clear hz hb
  go_wp2_with fail
  go_ret
  rw [← HZ.out]
  exact ⟨rfl, HB.out⟩

theorem few1_n (M b : Nat) (hM : M ≤ 100000) (A : Option Addr) (n c : Nat) (w : World) (hb : w.cell? ⟨b, 0, none⟩ = some (.int .i64 (M : Int))) (hn : n ≤ 9223372036854775807) : Calls Try.prog 48 #[.agg #[.slice A n c], .pointer (some ⟨b, 0, none⟩)] w (RetB (.bool (decide (M < n))) w) := by
  have hlt := World.block_lt_of_cell? w ⟨b, 0, none⟩ hb
  go_enter Try.func48, Try.ntmps48
  go_wp2_with fail
  go_ret
  exact ⟨rfl, (Below.refl _ _).alloc (Nat.le_refl _) _⟩
theorem few_fn_n (M g k : Nat) (hM : M ≤ 100000) (A : Nat → Option Addr) (N C : Nat → Nat) (w : World) (hN : Nats w w.heap.size g k A N C) (hk : k ≤ 100) :
    Calls Try.prog 13 #[.int .i64 (M : Int), .slice (some ⟨g, 0, none⟩) k k] w (RetB (.bool (!anyB k fun i => decide (M < N i))) w) := by
  have hb := (Below.refl w.heap.size w).alloc (Nat.le_refl _) (.cells #[.int .i64 (M : Int)] 3)
  have hB := Blk.new w 3 #[.int .i64 (M : Int)]
  have hN2 : Nats (w.alloc (.cells #[.int .i64 (M : Int)] 3)) (w.alloc (.cells #[.int .i64 (M : Int)] 3)).heap.size g k A N C := ⟨Nat.lt_of_lt_of_le hN.1 hb.size, (hN.below hb).2⟩
  have H := hid (containso_48 (fun i => decide (M < N i)) g k k w.heap.size A N C _ _ (fun _ => rfl) (fun _ => hN2) hk (fun i hi wr hw => few1_n M w.heap.size hM (A i) (N i) (C i) wr (by rw [hw.cell (by simp)]; exact (hB.cell 0).trans rfl) (hN.2 i hi).2))
  have HB := hid hb
  obtain ⟨t, ht⟩ : ∃ t, t = anyB k fun i => decide (M < N i) := ⟨_, rfl⟩
  rw [← ht] at H ⊢
  clear hN hN2 hb hB ht
  go_enter Try.func13, Try.ntmps13
  go_wp2_with fail
  refine H.out.mono ?_
  rintro e w1 ⟨rfl, hb⟩
  have HB1 := hid (HB.out.trans (hb.mono HB.out.size))
  clear hb
  go_wp2_with fail
  go_ret
  exact ⟨rfl, HB1.out⟩
theorem anyB_all {k : Nat} {p : Nat → Bool} (h : anyB k p = false) : ∀ i, i < k → p i = false := fun i hi => by
  cases hp : p i
  · rfl
  · rw [anyB_yes hi hp] at h; cases h
theorem natso_1 (V : World) (A0 : Option Addr) (n0 c0 : Nat) (h0 : n0 ≤ 9223372036854775807) :
    Nats (V.alloc (.cells #[.slice A0 n0 c0] 24)) (V.alloc (.cells #[.slice A0 n0 c0] 24)).heap.size V.heap.size 1 (fun i => A0) (fun i => n0) (fun i => c0) :=
  ⟨by simp, fun i hi => by
    have h : i = 0 := by omega
    subst h
    · exact ⟨((Blk.new V 24 _).cell 0).trans rfl, h0⟩⟩
theorem few_n1 (M : Nat) (hM : M ≤ 100000) (V : World) (A0 : Option Addr) (n0 c0 : Nat) (h0 : n0 ≤ 9223372036854775807) :
    Calls Try.prog 13 #[.int .i64 (M : Int), .slice (some ⟨V.heap.size, 0, none⟩) 1 1] (V.alloc (.cells #[.slice A0 n0 c0] 24)) fun e w' => e = .returned (.bool (decide (n0 ≤ M))) ∧ Below V.heap.size V w' :=
  (few_fn_n M _ 1 hM _ _ _ _ (natso_1 V A0 n0 c0 h0) (by omega)).mono fun e w' ⟨g1, g2⟩ => ⟨by
    rw [g1]
    by_cases h : n0 ≤ M
    · rw [anyB_no (fun i hi => by (try dsimp only); simp <;> omega), decide_eq_true h]; rfl
    · have h5 : M < n0 := by omega
      rw [decide_eq_false h]
      skip
      · rw [anyB_yes (i := 0) (by omega) (by simpa using h5)]; rfl, ((Below.refl _ _).alloc (Nat.le_refl _) _).trans (g2.mono (by simp))⟩
theorem natso_2 (V : World) (A0 A1 : Option Addr) (n0 n1 c0 c1 : Nat) (h0 : n0 ≤ 9223372036854775807) (h1 : n1 ≤ 9223372036854775807) :
    Nats (V.alloc (.cells #[.slice A0 n0 c0, .slice A1 n1 c1] 24)) (V.alloc (.cells #[.slice A0 n0 c0, .slice A1 n1 c1] 24)).heap.size V.heap.size 2 (fun i => if i = 0 then A0 else A1) (fun i => if i = 0 then n0 else n1) (fun i => if i = 0 then c0 else c1) :=
  ⟨by simp, fun i hi => by
    have h : i = 0 ∨ i = 1 := by omega
    rcases h with rfl | rfl
    · exact ⟨((Blk.new V 24 _).cell 0).trans rfl, h0⟩
    · exact ⟨((Blk.new V 24 _).cell 1).trans rfl, h1⟩⟩
theorem few_n2 (M : Nat) (hM : M ≤ 100000) (V : World) (A0 A1 : Option Addr) (n0 n1 c0 c1 : Nat) (h0 : n0 ≤ 9223372036854775807) (h1 : n1 ≤ 9223372036854775807) :
    Calls Try.prog 13 #[.int .i64 (M : Int), .slice (some ⟨V.heap.size, 0, none⟩) 2 2] (V.alloc (.cells #[.slice A0 n0 c0, .slice A1 n1 c1] 24)) fun e w' => e = .returned (.bool (decide (n0 ≤ M ∧ n1 ≤ M))) ∧ Below V.heap.size V w' :=
  (few_fn_n M _ 2 hM _ _ _ _ (natso_2 V A0 A1 n0 n1 c0 c1 h0 h1) (by omega)).mono fun e w' ⟨g1, g2⟩ => ⟨by
    rw [g1]
    by_cases h : n0 ≤ M ∧ n1 ≤ M
    · rw [anyB_no (fun i hi => by (try dsimp only); split <;> (try split) <;> (try split) <;> (try split) <;> simp <;> omega), decide_eq_true h]; rfl
    · have h5 : M < n0 ∨ M < n1 := by omega
      rw [decide_eq_false h]
      rcases h5 with h5 | h5
      · rw [anyB_yes (i := 0) (by omega) (by simpa using h5)]; rfl
      · rw [anyB_yes (i := 1) (by omega) (by simpa using h5)]; rfl, ((Below.refl _ _).alloc (Nat.le_refl _) _).trans (g2.mono (by simp))⟩
theorem natso_3 (V : World) (A0 A1 A2 : Option Addr) (n0 n1 n2 c0 c1 c2 : Nat) (h0 : n0 ≤ 9223372036854775807) (h1 : n1 ≤ 9223372036854775807) (h2 : n2 ≤ 9223372036854775807) :
    Nats (V.alloc (.cells #[.slice A0 n0 c0, .slice A1 n1 c1, .slice A2 n2 c2] 24)) (V.alloc (.cells #[.slice A0 n0 c0, .slice A1 n1 c1, .slice A2 n2 c2] 24)).heap.size V.heap.size 3 (fun i => if i = 0 then A0 else if i = 1 then A1 else A2) (fun i => if i = 0 then n0 else if i = 1 then n1 else n2) (fun i => if i = 0 then c0 else if i = 1 then c1 else c2) :=
  ⟨by simp, fun i hi => by
    have h : i = 0 ∨ i = 1 ∨ i = 2 := by omega
    rcases h with rfl | rfl | rfl
    · exact ⟨((Blk.new V 24 _).cell 0).trans rfl, h0⟩
    · exact ⟨((Blk.new V 24 _).cell 1).trans rfl, h1⟩
    · exact ⟨((Blk.new V 24 _).cell 2).trans rfl, h2⟩⟩
theorem few_n3 (M : Nat) (hM : M ≤ 100000) (V : World) (A0 A1 A2 : Option Addr) (n0 n1 n2 c0 c1 c2 : Nat) (h0 : n0 ≤ 9223372036854775807) (h1 : n1 ≤ 9223372036854775807) (h2 : n2 ≤ 9223372036854775807) :
    Calls Try.prog 13 #[.int .i64 (M : Int), .slice (some ⟨V.heap.size, 0, none⟩) 3 3] (V.alloc (.cells #[.slice A0 n0 c0, .slice A1 n1 c1, .slice A2 n2 c2] 24)) fun e w' => e = .returned (.bool (decide (n0 ≤ M ∧ n1 ≤ M ∧ n2 ≤ M))) ∧ Below V.heap.size V w' :=
  (few_fn_n M _ 3 hM _ _ _ _ (natso_3 V A0 A1 A2 n0 n1 n2 c0 c1 c2 h0 h1 h2) (by omega)).mono fun e w' ⟨g1, g2⟩ => ⟨by
    rw [g1]
    by_cases h : n0 ≤ M ∧ n1 ≤ M ∧ n2 ≤ M
    · rw [anyB_no (fun i hi => by (try dsimp only); split <;> (try split) <;> (try split) <;> (try split) <;> simp <;> omega), decide_eq_true h]; rfl
    · have h5 : M < n0 ∨ M < n1 ∨ M < n2 := by omega
      rw [decide_eq_false h]
      rcases h5 with h5 | h5 | h5
      · rw [anyB_yes (i := 0) (by omega) (by simpa using h5)]; rfl
      · rw [anyB_yes (i := 1) (by omega) (by simpa using h5)]; rfl
      · rw [anyB_yes (i := 2) (by omega) (by simpa using h5)]; rfl, ((Below.refl _ _).alloc (Nat.le_refl _) _).trans (g2.mono (by simp))⟩
theorem natso_4 (V : World) (A0 A1 A2 A3 : Option Addr) (n0 n1 n2 n3 c0 c1 c2 c3 : Nat) (h0 : n0 ≤ 9223372036854775807) (h1 : n1 ≤ 9223372036854775807) (h2 : n2 ≤ 9223372036854775807) (h3 : n3 ≤ 9223372036854775807) :
    Nats (V.alloc (.cells #[.slice A0 n0 c0, .slice A1 n1 c1, .slice A2 n2 c2, .slice A3 n3 c3] 24)) (V.alloc (.cells #[.slice A0 n0 c0, .slice A1 n1 c1, .slice A2 n2 c2, .slice A3 n3 c3] 24)).heap.size V.heap.size 4 (fun i => if i = 0 then A0 else if i = 1 then A1 else if i = 2 then A2 else A3) (fun i => if i = 0 then n0 else if i = 1 then n1 else if i = 2 then n2 else n3) (fun i => if i = 0 then c0 else if i = 1 then c1 else if i = 2 then c2 else c3) :=
  ⟨by simp, fun i hi => by
    have h : i = 0 ∨ i = 1 ∨ i = 2 ∨ i = 3 := by omega
    rcases h with rfl | rfl | rfl | rfl
    · exact ⟨((Blk.new V 24 _).cell 0).trans rfl, h0⟩
    · exact ⟨((Blk.new V 24 _).cell 1).trans rfl, h1⟩
    · exact ⟨((Blk.new V 24 _).cell 2).trans rfl, h2⟩
    · exact ⟨((Blk.new V 24 _).cell 3).trans rfl, h3⟩⟩
theorem few_n4 (M : Nat) (hM : M ≤ 100000) (V : World) (A0 A1 A2 A3 : Option Addr) (n0 n1 n2 n3 c0 c1 c2 c3 : Nat) (h0 : n0 ≤ 9223372036854775807) (h1 : n1 ≤ 9223372036854775807) (h2 : n2 ≤ 9223372036854775807) (h3 : n3 ≤ 9223372036854775807) :
    Calls Try.prog 13 #[.int .i64 (M : Int), .slice (some ⟨V.heap.size, 0, none⟩) 4 4] (V.alloc (.cells #[.slice A0 n0 c0, .slice A1 n1 c1, .slice A2 n2 c2, .slice A3 n3 c3] 24)) fun e w' => e = .returned (.bool (decide (n0 ≤ M ∧ n1 ≤ M ∧ n2 ≤ M ∧ n3 ≤ M))) ∧ Below V.heap.size V w' :=
  (few_fn_n M _ 4 hM _ _ _ _ (natso_4 V A0 A1 A2 A3 n0 n1 n2 n3 c0 c1 c2 c3 h0 h1 h2 h3) (by omega)).mono fun e w' ⟨g1, g2⟩ => ⟨by
    rw [g1]
    by_cases h : n0 ≤ M ∧ n1 ≤ M ∧ n2 ≤ M ∧ n3 ≤ M
    · rw [anyB_no (fun i hi => by (try dsimp only); split <;> (try split) <;> (try split) <;> (try split) <;> simp <;> omega), decide_eq_true h]; rfl
    · have h5 : M < n0 ∨ M < n1 ∨ M < n2 ∨ M < n3 := by omega
      rw [decide_eq_false h]
      rcases h5 with h5 | h5 | h5 | h5
      · rw [anyB_yes (i := 0) (by omega) (by simpa using h5)]; rfl
      · rw [anyB_yes (i := 1) (by omega) (by simpa using h5)]; rfl
      · rw [anyB_yes (i := 2) (by omega) (by simpa using h5)]; rfl
      · rw [anyB_yes (i := 3) (by omega) (by simpa using h5)]; rfl, ((Below.refl _ _).alloc (Nat.le_refl _) _).trans (g2.mono (by simp))⟩
theorem natso_5 (V : World) (A0 A1 A2 A3 A4 : Option Addr) (n0 n1 n2 n3 n4 c0 c1 c2 c3 c4 : Nat) (h0 : n0 ≤ 9223372036854775807) (h1 : n1 ≤ 9223372036854775807) (h2 : n2 ≤ 9223372036854775807) (h3 : n3 ≤ 9223372036854775807) (h4 : n4 ≤ 9223372036854775807) :
    Nats (V.alloc (.cells #[.slice A0 n0 c0, .slice A1 n1 c1, .slice A2 n2 c2, .slice A3 n3 c3, .slice A4 n4 c4] 24)) (V.alloc (.cells #[.slice A0 n0 c0, .slice A1 n1 c1, .slice A2 n2 c2, .slice A3 n3 c3, .slice A4 n4 c4] 24)).heap.size V.heap.size 5 (fun i => if i = 0 then A0 else if i = 1 then A1 else if i = 2 then A2 else if i = 3 then A3 else A4) (fun i => if i = 0 then n0 else if i = 1 then n1 else if i = 2 then n2 else if i = 3 then n3 else n4) (fun i => if i = 0 then c0 else if i = 1 then c1 else if i = 2 then c2 else if i = 3 then c3 else c4) :=
  ⟨by simp, fun i hi => by
    have h : i = 0 ∨ i = 1 ∨ i = 2 ∨ i = 3 ∨ i = 4 := by omega
    rcases h with rfl | rfl | rfl | rfl | rfl
    · exact ⟨((Blk.new V 24 _).cell 0).trans rfl, h0⟩
    · exact ⟨((Blk.new V 24 _).cell 1).trans rfl, h1⟩
    · exact ⟨((Blk.new V 24 _).cell 2).trans rfl, h2⟩
    · exact ⟨((Blk.new V 24 _).cell 3).trans rfl, h3⟩
    · exact ⟨((Blk.new V 24 _).cell 4).trans rfl, h4⟩⟩
theorem few_n5 (M : Nat) (hM : M ≤ 100000) (V : World) (A0 A1 A2 A3 A4 : Option Addr) (n0 n1 n2 n3 n4 c0 c1 c2 c3 c4 : Nat) (h0 : n0 ≤ 9223372036854775807) (h1 : n1 ≤ 9223372036854775807) (h2 : n2 ≤ 9223372036854775807) (h3 : n3 ≤ 9223372036854775807) (h4 : n4 ≤ 9223372036854775807) :
    Calls Try.prog 13 #[.int .i64 (M : Int), .slice (some ⟨V.heap.size, 0, none⟩) 5 5] (V.alloc (.cells #[.slice A0 n0 c0, .slice A1 n1 c1, .slice A2 n2 c2, .slice A3 n3 c3, .slice A4 n4 c4] 24)) fun e w' => e = .returned (.bool (decide (n0 ≤ M ∧ n1 ≤ M ∧ n2 ≤ M ∧ n3 ≤ M ∧ n4 ≤ M))) ∧ Below V.heap.size V w' :=
  (few_fn_n M _ 5 hM _ _ _ _ (natso_5 V A0 A1 A2 A3 A4 n0 n1 n2 n3 n4 c0 c1 c2 c3 c4 h0 h1 h2 h3 h4) (by omega)).mono fun e w' ⟨g1, g2⟩ => ⟨by
    rw [g1]
    by_cases h : n0 ≤ M ∧ n1 ≤ M ∧ n2 ≤ M ∧ n3 ≤ M ∧ n4 ≤ M
    · rw [anyB_no (fun i hi => by (try dsimp only); split <;> (try split) <;> (try split) <;> (try split) <;> simp <;> omega), decide_eq_true h]; rfl
    · have h5 : M < n0 ∨ M < n1 ∨ M < n2 ∨ M < n3 ∨ M < n4 := by omega
      rw [decide_eq_false h]
      rcases h5 with h5 | h5 | h5 | h5 | h5
      · rw [anyB_yes (i := 0) (by omega) (by simpa using h5)]; rfl
      · rw [anyB_yes (i := 1) (by omega) (by simpa using h5)]; rfl
      · rw [anyB_yes (i := 2) (by omega) (by simpa using h5)]; rfl
      · rw [anyB_yes (i := 3) (by omega) (by simpa using h5)]; rfl
      · rw [anyB_yes (i := 4) (by omega) (by simpa using h5)]; rfl, ((Below.refl _ _).alloc (Nat.le_refl _) _).trans (g2.mono (by simp))⟩
/-- What first returns: the first error of k residues and a modulus. -/
def firstS (k : Nat) (N X : Nat → Nat) (q m : Nat) : Int := if (!modB q m || anyB k fun i => !okB (N i) (X i)) = true then 1 else if (anyB k fun i => !decide (X i < m)) = true then 2 else 0
set_option maxHeartbeats 8000000 in
theorem first_m (g k cp : Nat) (O : Option Addr) (A : Nat → Option Addr) (N C X : Nat → Nat) (C' : Option Addr) (q m p : Nat) (w : World) (hO : 0 < k → O = some ⟨g, 0, none⟩) (hN : 0 < k → Nats w w.heap.size g k A N C) (hX : ∀ i, i < k → Num w w.heap.size (A i) (N i) (X i)) (hM : Num w w.heap.size C' q m) (hk : k ≤ 100) (hq : q ≤ 9223372036854775807) (h1 : modB q m = false) :
    Calls Try.prog 16 #[.agg #[.slice C' q p], .slice O k cp] w (RetB (.int .i64 1) w) := by
  have G1 := hid h1
  have HN := hid hN
  have HX := hid hX
  have HOO := hid hO
  clear hN hX hO h1
  obtain ⟨b0, bw⟩ := boxes1 w (.slice C' q p)
  have XM := VB.mk (B := w.heap.size) (a := m) b0 (.inl hM) bw (Nat.le_refl _) (by omega)
  have WW := bw
  clear bw b0
  go_enter Try.func16, Try.ntmps16
  go_wp2_with fail
  generalize hV : (w.alloc (.cells #[.slice C' q p] 24)) = V0 at XM WW ⊢
  clear hV
  have hbs : w.heap.size ≤ V0.heap.size := WW.size
  have hc := rmodulus_any C' _ p m V0 XM.num hq
  rw [G1.out] at hc
  refine hc.mono ?_
  clear hc
  rintro e V1 ⟨rfl, hb⟩
  replace XM := XM.below hb
  replace WW := WW.trans (hb.mono WW.size)
  have kXM := XM.cell
  have zXM := XM.lt
  clear hb hbs
  go_wp2_with fail
  go_ret
  exact ⟨rfl, WW⟩

set_option maxHeartbeats 8000000 in
theorem first_v (g k cp : Nat) (O : Option Addr) (A : Nat → Option Addr) (N C X : Nat → Nat) (C' : Option Addr) (q m p : Nat) (w : World) (hO : 0 < k → O = some ⟨g, 0, none⟩) (hN : 0 < k → Nats w w.heap.size g k A N C) (hX : ∀ i, i < k → Num w w.heap.size (A i) (N i) (X i)) (hM : Num w w.heap.size C' q m) (hk : k ≤ 100) (hq : q ≤ 9223372036854775807) (h1 : modB q m = true) (h2 : (anyB k fun i => !okB (N i) (X i)) = true) :
    Calls Try.prog 16 #[.agg #[.slice C' q p], .slice O k cp] w (RetB (.int .i64 1) w) := by
  have G1 := hid h1
  have HN := hid hN
  have HX := hid hX
  have HOO := hid hO
  have G2 := hid h2
  clear hN hX hO h1 h2
  obtain ⟨b0, bw⟩ := boxes1 w (.slice C' q p)
  have XM := VB.mk (B := w.heap.size) (a := m) b0 (.inl hM) bw (Nat.le_refl _) (by omega)
  have WW := bw
  clear bw b0
  go_enter Try.func16, Try.ntmps16
  go_wp2_with fail
  generalize hV : (w.alloc (.cells #[.slice C' q p] 24)) = V0 at XM WW ⊢
  clear hV
  have hbs : w.heap.size ≤ V0.heap.size := WW.size
  have hc := rmodulus_any C' _ p m V0 XM.num hq
  rw [G1.out] at hc
  refine hc.mono ?_
  clear hc
  rintro e V1 ⟨rfl, hb⟩
  replace XM := XM.below hb
  replace WW := WW.trans (hb.mono WW.size)
  have kXM := XM.cell
  have zXM := XM.lt
  clear hb hbs
  go_wp2_with fail
  have hbs : w.heap.size ≤ V1.heap.size := WW.size
  have hc := containso_53 (fun i => !okB (N i) (X i)) g k cp A N C V1 O HOO.out (fun h => ⟨Nat.lt_of_lt_of_le (HN.out h).1 WW.size, ((HN.out h).below WW).2⟩) hk (fun i hi wr hw => first1_any (A i) (N i) (C i) (X i) wr (((HX.out i hi).below (WW.trans (hw.mono WW.size))).more (WW.trans (hw.mono WW.size)).size) ((HN.out (by omega)).2 i hi).2)
  rw [G2.out] at hc
  refine hc.mono ?_
  clear hc
  rintro e V2 ⟨rfl, hb⟩
  clear kXM zXM
  replace XM := XM.below hb
  replace WW := WW.trans (hb.mono WW.size)
  have kXM := XM.cell
  have zXM := XM.lt
  clear hb hbs
  go_wp2_with fail
  go_ret
  exact ⟨rfl, WW⟩

set_option maxHeartbeats 8000000 in
theorem first_r (g k cp : Nat) (O : Option Addr) (A : Nat → Option Addr) (N C X : Nat → Nat) (C' : Option Addr) (q m p : Nat) (w : World) (hO : 0 < k → O = some ⟨g, 0, none⟩) (hN : 0 < k → Nats w w.heap.size g k A N C) (hX : ∀ i, i < k → Num w w.heap.size (A i) (N i) (X i)) (hM : Num w w.heap.size C' q m) (hk : k ≤ 100) (hq : q ≤ 9223372036854775807) (h1 : modB q m = true) (h2 : (anyB k fun i => !okB (N i) (X i)) = false) (h3 : (anyB k fun i => !decide (X i < m)) = true) :
    Calls Try.prog 16 #[.agg #[.slice C' q p], .slice O k cp] w (RetB (.int .i64 2) w) := by
  have G1 := hid h1
  have HN := hid hN
  have HX := hid hX
  have HOO := hid hO
  have G2 := hid h2
  have G3 := hid h3
  have HL := hid (anyB_all h2)
  obtain ⟨hqm, hq1, hm0⟩ := modB_yes h1
  subst hqm
  clear hN hX hO h1 h2 h3
  obtain ⟨b0, bw⟩ := boxes1 w (.slice C' (nw m) p)
  have XM := VB.mk (B := w.heap.size) (a := m) b0 (.inl hM) bw (Nat.le_refl _) (by omega)
  have WW := bw
  clear bw b0
  go_enter Try.func16, Try.ntmps16
  go_wp2_with fail
  generalize hV : (w.alloc (.cells #[.slice C' (nw m) p] 24)) = V0 at XM WW ⊢
  clear hV
  have hbs : w.heap.size ≤ V0.heap.size := WW.size
  have hc := rmodulus_any C' _ p m V0 XM.num hq
  rw [G1.out] at hc
  refine hc.mono ?_
  clear hc
  rintro e V1 ⟨rfl, hb⟩
  replace XM := XM.below hb
  replace WW := WW.trans (hb.mono WW.size)
  have kXM := XM.cell
  have zXM := XM.lt
  clear hb hbs
  go_wp2_with fail
  have hbs : w.heap.size ≤ V1.heap.size := WW.size
  have hc := containso_53 (fun i => !okB (N i) (X i)) g k cp A N C V1 O HOO.out (fun h => ⟨Nat.lt_of_lt_of_le (HN.out h).1 WW.size, ((HN.out h).below WW).2⟩) hk (fun i hi wr hw => first1_any (A i) (N i) (C i) (X i) wr (((HX.out i hi).below (WW.trans (hw.mono WW.size))).more (WW.trans (hw.mono WW.size)).size) ((HN.out (by omega)).2 i hi).2)
  rw [G2.out] at hc
  refine hc.mono ?_
  clear hc
  rintro e V2 ⟨rfl, hb⟩
  clear kXM zXM
  replace XM := XM.below hb
  replace WW := WW.trans (hb.mono WW.size)
  have kXM := XM.cell
  have zXM := XM.lt
  clear hb hbs
  go_wp2_with fail
  have hbs : w.heap.size ≤ V2.heap.size := WW.size
  have hc := containso_54 (fun i => !decide (X i < m)) g k cp w.heap.size A N C V2 O HOO.out (fun h => ⟨Nat.lt_of_lt_of_le (HN.out h).1 WW.size, ((HN.out h).below WW).2⟩) hk (fun i hi wr hw => by
    have hl := okB_yes.1 (by simpa using HL.out i hi)
    have hX2 := ((HX.out i hi).below (WW.trans (hw.mono WW.size))).more (WW.trans (hw.mono WW.size)).size
    have hM2 := XM.below hw
    rw [← hl.1] at hX2 ⊢
    exact first2_any w.heap.size (A i) C' (C i) p (X i) m wr hM2.cell hX2 hM2.num (by omega) (by omega))
  rw [G3.out] at hc
  refine hc.mono ?_
  clear hc
  rintro e V3 ⟨rfl, hb⟩
  clear kXM zXM
  replace XM := XM.below hb
  replace WW := WW.trans (hb.mono WW.size)
  have kXM := XM.cell
  have zXM := XM.lt
  clear hb hbs
  go_wp2_with fail
  go_ret
  exact ⟨rfl, WW⟩

set_option maxHeartbeats 8000000 in
theorem first_ok (g k cp : Nat) (O : Option Addr) (A : Nat → Option Addr) (N C X : Nat → Nat) (C' : Option Addr) (q m p : Nat) (w : World) (hO : 0 < k → O = some ⟨g, 0, none⟩) (hN : 0 < k → Nats w w.heap.size g k A N C) (hX : ∀ i, i < k → Num w w.heap.size (A i) (N i) (X i)) (hM : Num w w.heap.size C' q m) (hk : k ≤ 100) (hq : q ≤ 9223372036854775807) (h1 : modB q m = true) (h2 : (anyB k fun i => !okB (N i) (X i)) = false) (h3 : (anyB k fun i => !decide (X i < m)) = false) :
    Calls Try.prog 16 #[.agg #[.slice C' q p], .slice O k cp] w (RetB (.int .i64 0) w) := by
  have G1 := hid h1
  have HN := hid hN
  have HX := hid hX
  have HOO := hid hO
  have G2 := hid h2
  have G3 := hid h3
  have HL := hid (anyB_all h2)
  obtain ⟨hqm, hq1, hm0⟩ := modB_yes h1
  subst hqm
  clear hN hX hO h1 h2 h3
  obtain ⟨b0, bw⟩ := boxes1 w (.slice C' (nw m) p)
  have XM := VB.mk (B := w.heap.size) (a := m) b0 (.inl hM) bw (Nat.le_refl _) (by omega)
  have WW := bw
  clear bw b0
  go_enter Try.func16, Try.ntmps16
  go_wp2_with fail
  generalize hV : (w.alloc (.cells #[.slice C' (nw m) p] 24)) = V0 at XM WW ⊢
  clear hV
  have hbs : w.heap.size ≤ V0.heap.size := WW.size
  have hc := rmodulus_any C' _ p m V0 XM.num hq
  rw [G1.out] at hc
  refine hc.mono ?_
  clear hc
  rintro e V1 ⟨rfl, hb⟩
  replace XM := XM.below hb
  replace WW := WW.trans (hb.mono WW.size)
  have kXM := XM.cell
  have zXM := XM.lt
  clear hb hbs
  go_wp2_with fail
  have hbs : w.heap.size ≤ V1.heap.size := WW.size
  have hc := containso_53 (fun i => !okB (N i) (X i)) g k cp A N C V1 O HOO.out (fun h => ⟨Nat.lt_of_lt_of_le (HN.out h).1 WW.size, ((HN.out h).below WW).2⟩) hk (fun i hi wr hw => first1_any (A i) (N i) (C i) (X i) wr (((HX.out i hi).below (WW.trans (hw.mono WW.size))).more (WW.trans (hw.mono WW.size)).size) ((HN.out (by omega)).2 i hi).2)
  rw [G2.out] at hc
  refine hc.mono ?_
  clear hc
  rintro e V2 ⟨rfl, hb⟩
  clear kXM zXM
  replace XM := XM.below hb
  replace WW := WW.trans (hb.mono WW.size)
  have kXM := XM.cell
  have zXM := XM.lt
  clear hb hbs
  go_wp2_with fail
  have hbs : w.heap.size ≤ V2.heap.size := WW.size
  have hc := containso_54 (fun i => !decide (X i < m)) g k cp w.heap.size A N C V2 O HOO.out (fun h => ⟨Nat.lt_of_lt_of_le (HN.out h).1 WW.size, ((HN.out h).below WW).2⟩) hk (fun i hi wr hw => by
    have hl := okB_yes.1 (by simpa using HL.out i hi)
    have hX2 := ((HX.out i hi).below (WW.trans (hw.mono WW.size))).more (WW.trans (hw.mono WW.size)).size
    have hM2 := XM.below hw
    rw [← hl.1] at hX2 ⊢
    exact first2_any w.heap.size (A i) C' (C i) p (X i) m wr hM2.cell hX2 hM2.num (by omega) (by omega))
  rw [G3.out] at hc
  refine hc.mono ?_
  clear hc
  rintro e V3 ⟨rfl, hb⟩
  clear kXM zXM
  replace XM := XM.below hb
  replace WW := WW.trans (hb.mono WW.size)
  have kXM := XM.cell
  have zXM := XM.lt
  clear hb hbs
  go_wp2_with fail
  go_ret
  exact ⟨rfl, WW⟩

theorem first_any (g k cp : Nat) (O : Option Addr) (A : Nat → Option Addr) (N C X : Nat → Nat) (C' : Option Addr) (q m p : Nat) (w : World) (hO : 0 < k → O = some ⟨g, 0, none⟩) (hN : 0 < k → Nats w w.heap.size g k A N C) (hX : ∀ i, i < k → Num w w.heap.size (A i) (N i) (X i)) (hM : Num w w.heap.size C' q m) (hk : k ≤ 100) (hq : q ≤ 9223372036854775807) :
    Calls Try.prog 16 #[.agg #[.slice C' q p], .slice O k cp] w (RetB (.int .i64 (firstS k N X q m)) w) := by
  cases h1 : modB q m
  · have e : firstS k N X q m = 1 := by unfold firstS; rw [h1]; rfl
    rw [e]; exact first_m g k cp O A N C X C' q m p w hO hN hX hM hk hq h1
  · cases h2 : (anyB k fun i => !okB (N i) (X i))
    · cases h3 : (anyB k fun i => !decide (X i < m))
      · have e : firstS k N X q m = 0 := by unfold firstS; rw [h1, h2, h3]; rfl
        rw [e]; exact first_ok g k cp O A N C X C' q m p w hO hN hX hM hk hq h1 h2 h3
      · have e : firstS k N X q m = 2 := by unfold firstS; rw [h1, h2, h3]; rfl
        rw [e]; exact first_r g k cp O A N C X C' q m p w hO hN hX hM hk hq h1 h2 h3
    · have e : firstS k N X q m = 1 := by unfold firstS; rw [h1, h2]; rfl
      rw [e]; exact first_v g k cp O A N C X C' q m p w hO hN hX hM hk hq h1 h2
end Go.Proofs.Ytckajjapockonaa
