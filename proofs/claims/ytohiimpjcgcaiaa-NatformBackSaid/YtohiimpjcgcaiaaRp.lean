/- The reference of layer 4: Parse. -/
import Derived.Test.YtohiimpjcgcaiaaRead
set_option linter.unusedVariables false
set_option linter.unusedSimpArgs false
namespace Go.Proofs.Ytohiimpjcgcaiaa
open Go Go.RowKit

theorem valC_dig {b : Nat} (hb : b = 10 ∨ b = 16) (c : Nat) : (valC b c).2 = decide (digC c < b) ∧ (digC c < b → (valC b c).1 = digC c) := by
  unfold valC digC
  by_cases h1 : 48 ≤ c ∧ c ≤ 57
  · rw [if_pos h1, if_pos h1]; refine ⟨?_, fun _ => rfl⟩; symm; simp; omega
  · rw [if_neg h1, if_neg h1]
    by_cases h2 : 97 ≤ c ∧ c ≤ 102
    · rw [if_pos h2]
      rcases hb with rfl | rfl
      · rw [if_neg (by omega)]; refine ⟨?_, fun h => by omega⟩; symm; simp; omega
      · rw [if_pos ⟨rfl, h2⟩]; refine ⟨?_, fun _ => rfl⟩; symm; simp; omega
    · rw [if_neg h2, if_neg (fun h => h2 h.2)]
      rcases hb with rfl | rfl <;> simp

set_option maxHeartbeats 4000000 in
set_option maxRecDepth 100000 in
theorem rparse_any (s : ByteArray) (b : Nat) (w : World) (hs : s.size ≤ 9223372036854775807) (hb : b = 10 ∨ b = 16) :
    Calls Try.prog 16 #[.string s, .int .u64 ((b : Nat) : Int)] w (RetTwo w.heap.size (rdS b (strL s)).1 (rdS b (strL s)).2 w) := by
  have b0 := Blk.new w 24 #[.slice none 0 0]
  have WW := (Below.refl w.heap.size w).alloc (Nat.le_refl _) (.cells #[.slice none 0 0] 24)
  have k0 := b0.cell0
  have f0 := b0.frozen 0
  have z0 := b0.lt
  have hb0 : 0 < b := by omega
  have hb16 : b ≤ 16 := by omega
  by_cases h0 : 1000 < s.size
  · have HX : Hid (rdS b (strL s) = (0, 5)) := (show rdS b (strL s) = (0, 5) by unfold rdS; rw [strL_len, if_pos h0])
    have l1 : decide (((s.size : Nat) : Int) > 1000) = true := by simp; omega
    go_enter Try.func16, Try.ntmps16
    go_wp2_with fail
    exact bodyPost_ret (v := .tuple #[.agg #[.slice none 0 0], .int .i64 5]) (by simp [results, Try.results16, go_sem, k0]) rfl (by rw [HX.out]; exact ⟨_, rfl, NatV.nil _ _, WW⟩)
  · have l1 : decide (((s.size : Nat) : Int) > 1000) = false := by simp; omega
    by_cases h1 : s.size = 0
    · have he1 := str_empty h1
      have HX : Hid (rdS b (strL s) = (0, 3)) := (show rdS b (strL s) = (0, 3) by unfold rdS; rw [strL_nil h1]; rfl)
      go_enter Try.func16, Try.ntmps16
      go_wp2_with fail
      exact bodyPost_ret (v := .tuple #[.agg #[.slice none 0 0], .int .i64 3]) (by simp [results, Try.results16, go_sem, k0]) rfl (by rw [HX.out]; exact ⟨_, rfl, NatV.nil _ _, WW⟩)
    · have he1 := str_some h1
      obtain ⟨c0, hc0⟩ : ∃ c0, c0 = (s[0]'(by omega)).toNat := ⟨_, rfl⟩
      have hc0' : (s[0]'(by omega)).toNat = c0 := hc0.symm
      have HC0 : Hid ((strL s)[0]? = some c0) := (show _ = _ by rw [List.getElem?_eq_getElem (by rw [strL_len]; omega), strL_at s (by omega), hc0'])
      clear hc0
      by_cases hz : c0 = 48 ∧ s.size ≠ 1
      · obtain ⟨rfl, h2⟩ := hz
        have hm : decide (((s.size : Nat) : Int) > 1) = true := by simp; omega
        have HX : Hid (rdS b (strL s) = (0, 3)) := (show rdS b (strL s) = (0, 3) by unfold rdS; rw [if_neg (by rw [strL_len]; omega), if_pos (.inr ⟨HC0.out, by rw [strL_len]; exact h2⟩)])
        go_enter Try.func16, Try.ntmps16
        go_wp2_with fail
        exact bodyPost_ret (v := .tuple #[.agg #[.slice none 0 0], .int .i64 3]) (by simp [results, Try.results16, go_sem, k0]) rfl (by rw [HX.out]; exact ⟨_, rfl, NatV.nil _ _, WW⟩)
      · have HX : Hid (rdS b (strL s) = if (strL s).all (fun c => decide (digC c < b)) then limS (vb b ((strL s).map digC)) else (0, 3)) := (show rdS b (strL s) = _ by
          unfold rdS
          rw [if_neg (by rw [strL_len]; omega), if_neg]
          rintro (h | ⟨h, h'⟩)
          · have := strL_len s; rw [h] at this; exact h1 this.symm
          · rw [HC0.out] at h; injection h with h; rw [strL_len] at h'; exact hz ⟨h, h'⟩)
        by_cases h48 : c0 = 48
        · subst h48
          have hm : decide (((s.size : Nat) : Int) > 1) = false := by
            by_cases h4 : s.size = 1
            · rw [h4]; rfl
            · exact absurd ⟨rfl, h4⟩ hz
          go_enter Try.func16, Try.ntmps16
          go_wp2_with fail
          clear k0 f0 z0 he1 hc0' hm
          generalize hV : (w.alloc (.cells #[.slice none 0 0] 24)) = V0 at b0 WW ⊢
          clear hV
          go_loopw [6] (fun i wr => ∃ k : Nat, k ≤ s.size ∧ i = .int .i64 ((k : Nat) : Int) ∧ wr = V0 ∧ Hid (∀ c ∈ (strL s).take k, digC c < b)) (fun i wr => s.size - (intOf i).toNat)
          case atStart => exact ⟨0, Nat.zero_le _, by go_num, rfl, (show ∀ c ∈ (strL s).take 0, digC c < b by simp)⟩
          case round =>
            obtain ⟨k, hk, rfl, rfl, HD⟩ := hrel
            have k0 := b0.cell0
            have z0 := b0.lt
            have f0 := b0.frozen 0
            by_cases hks : k < s.size
            · obtain ⟨c, hc⟩ : ∃ c, c = s[k].toNat := ⟨_, rfl⟩
              have hc' : s[k].toNat = c := hc.symm
              have hc255 : c ≤ 255 := by rw [hc]; have := UInt8.toNat_lt s[k]; omega
              have hkl : k < (strL s).length := by rw [strL_len]; exact hks
              have hcl : (strL s)[k] = c := by rw [strL_at s hks, hc]
              clear hc
              have HCL := hid hcl
              clear hcl
              have hd1 := rvalue_any c b wr hc255 (by omega)
              by_cases hyb : digC c < b
              · obtain ⟨v, hv⟩ : ∃ v, v = (valC b c).1 := ⟨_, rfl⟩
                rw [← hv, (valC_dig hb c).1, decide_eq_true hyb] at hd1
                clear hv
                go_wp2_with (go_at_call 28; refine hd1.mono ?_; clear hd1; rintro e w' ⟨rfl, rfl⟩)
                go_roundw
                case rel => exact ⟨k + 1, by omega, by go_num, trivial, (show ∀ c ∈ (strL s).take (k + 1), digC c < b by
                  intro c2 hc2
                  rw [List.take_succ_eq_append_getElem hkl] at hc2
                  rcases List.mem_append.1 hc2 with h | h
                  · exact HD.out c2 h
                  · rw [List.mem_singleton.1 h, HCL.out]; exact hyb)⟩
                case measure => simp [intOf] <;> omega
              · obtain ⟨v, hv⟩ : ∃ v, v = (valC b c).1 := ⟨_, rfl⟩
                rw [← hv, (valC_dig hb c).1, decide_eq_false hyb] at hd1
                clear hv
                have HX3 : Hid (rdS b (strL s) = (0, 3)) := (show _ = _ by
                  rw [HX.out, if_neg]
                  intro h
                  have h2 := List.all_eq_true.1 h _ (List.getElem_mem hkl)
                  rw [HCL.out] at h2
                  exact hyb (of_decide_eq_true h2))
                go_wp2_with (go_at_call 28; refine hd1.mono ?_; clear hd1; rintro e w' ⟨rfl, rfl⟩)
                exact bodyPost_ret (v := .tuple #[.agg #[.slice none 0 0], .int .i64 3]) (by simp [results, Try.results16, go_sem, k0]) rfl (by rw [HX3.out]; exact ⟨_, rfl, NatV.nil _ _, (WW.setCell (by simp) _)⟩)
            · obtain rfl : k = s.size := by omega
              have HALL : Hid (∀ c ∈ strL s, digC c < b) := (show ∀ c ∈ strL s, digC c < b by
                intro c hc
                exact HD.out c (by rw [List.take_of_length_le (Nat.le_of_eq (strL_len s))]; exact hc))
              have HX3 : Hid (rdS b (strL s) = limS (vb b ((strL s).map digC))) := (show _ = _ by
                rw [HX.out, if_pos]
                rw [List.all_eq_true]
                intro c hc
                have := HALL.out c hc
                simpa using this)
              obtain ⟨l, hl⟩ : ∃ l, l = (strL s).map digC := ⟨_, rfl⟩
              rw [← hl] at HX3
              have HL : Hid (l.length = s.size) := (show l.length = s.size by rw [hl, List.length_map, strL_len])
              have HLM := hid hl
              clear hl HD HX k0 z0 f0
              go_wp2_with fail
              obtain ⟨n, hn⟩ : ∃ n, n = s.size := ⟨_, rfl⟩
              have XR : VB w.heap.size wr w.heap.size none 0 0 0 := ⟨b0, .inr (Own.nil _ _ _ _ (Nat.zero_le _)), Nat.le_refl _⟩
              clear b0
              have hn2 : s.size ≤ 1000 := by omega
              go_loopw [9, 10] (fun o i wr => ∃ (k : Nat), k ≤ s.size ∧ i = .int .i64 ((k : Nat) : Int) ∧ Hid (nw (vb b (l.take k)) ≤ k) ∧ OwnsV wr w.heap.size o (nw (vb b (l.take k))) (vb b (l.take k)) ∧ Below w.heap.size w wr ∧ VB w.heap.size wr (w.heap.size) none 0 0 0) (fun o i wr => s.size - (intOf i).toNat)
              case atStart => exact ⟨0, Nat.zero_le _, by go_num, (show nw (vb b (l.take 0)) ≤ 0 by simp [vb, nw]), OwnsV.none_ _ _, WW, XR⟩
              case round =>
                clear WW XR
                obtain ⟨k, hk, rfl, HNW, HO, WW, XR⟩ := hrel
                have kXR := XR.cell
                have zXR := XR.lt
                obtain ⟨S, hS⟩ : ∃ S, S = vb b (l.take k) := ⟨_, rfl⟩
                rw [← hS] at HNW HO
                have HS := hid hS
                clear hS
                obtain ⟨A1, c1, rfl, hown⟩ := HO.own
                have hns := HNW.out
                by_cases hkn : k < s.size
                · have hkl : k < l.length := by rw [HL.out]; exact hkn
                  have hkl2 : k < (strL s).length := by rw [strL_len]; exact hkn
                  obtain ⟨c, hc⟩ : ∃ c, c = s[k].toNat := ⟨_, rfl⟩
                  have hc' : s[k].toNat = c := hc.symm
                  have hc255 : c ≤ 255 := by rw [hc]; have := UInt8.toNat_lt s[k]; omega
                  have hcl : (strL s)[k] = c := by rw [strL_at s hkn, hc]
                  clear hc
                  have hyb : digC c < b := by rw [← hcl]; exact HALL.out _ (List.getElem_mem _)
                  have hd1 := rvalue_any c b wr hc255 (by omega)
                  rw [(valC_dig hb c).2 hyb, (valC_dig hb c).1, decide_eq_true hyb] at hd1
                  obtain ⟨y, hy0⟩ : ∃ y, y = digC c := ⟨_, rfl⟩
                  rw [← hy0] at hd1 hyb
                  have HT : Hid (S * b + y = vb b (l.take (k + 1))) := (show _ = _ by rw [vb_take hkl, HS.out, hy0, ← hcl]; simp only [HLM.out, List.getElem_map])
                  have l2 : decide (((k : Nat) : Int) < ((s.size : Nat) : Int)) = true := by simpa using hkn
                  clear hy0 hcl
                  go_wp2_with (go_at_call 28; refine hd1.mono ?_; clear hd1; rintro e w' ⟨rfl, rfl⟩)
                  have hc : Calls Try.prog 29 #[.slice A1 (nw S) c1, .int .u64 ((b : Nat) : Int), .int .u64 ((y : Nat) : Int)] w' _ := times_any A1 (nw S) c1 S w'.heap.size b y w' hown.num (Nat.le_refl _) (by omega) (by omega) hyb
                  refine hc.mono ?_
                  clear hc
                  rintro e V1 ⟨v, k2, rfl, ho, h1, h2, h3, hb3⟩
                  have HK2 : Hid (nw (S * b + y) = k2) := nw_grow (by exact Nat.le_trans (Nat.le_mul_of_pos_right _ hb0) (Nat.le_add_right _ _)) ho.1 h1 h3 h2
                  rw [HT.out] at HK2 ho
                  have ho2 : OwnsV V1 w.heap.size v k2 (vb b (l.take (k + 1))) := ho.weak WW.size
                  replace XR := XR.below hb3
                  replace WW := WW.trans (hb3.mono WW.size)
                  have HWW := hid WW
                  have HXR := hid XR
                  have HO2 := hid ho2
                  clear ho ho2 hb3 kXR zXR XR WW HO hown
                  go_wp2_with fail
                  go_roundw
                  case rel => exact ⟨k + 1, by omega, by go_num, (show nw _ ≤ k + 1 by rw [HK2.out]; omega), by rw [HK2.out]; exact HO2.out, HWW.out, HXR.out⟩
                  case measure => simp [intOf] <;> omega
                · obtain rfl : k = s.size := by omega
                  have l2 : decide (((s.size : Nat) : Int) < ((s.size : Nat) : Int)) = false := by simp
                  have HV : Hid (vb b l = S) := (show vb b l = S by rw [HS.out, List.take_of_length_le (Nat.le_of_eq HL.out)])
                  have fXR := XR.1.frozen 0
                  by_cases h64 : nw S ≤ 64
                  · have HY : Hid (rdS b (strL s) = (S, 0)) := (show rdS b (strL s) = _ by rw [HX3.out, HV.out, limS_ok h64])
                    have l3 : decide (((nw S : Nat) : Int) > 64) = false := by simp; omega
                    go_wp2_with fail
                    have ho2 := hown.box (p := ⟨w.heap.size, 0, none⟩) XR.1 (by decide) (.slice A1 (nw S) c1)
                    exact bodyPost_ret (v := .tuple #[.agg #[.slice A1 (nw S) c1], .int .i64 0]) (by simp [results, Try.results16, go_sem, kXR, zXR]) rfl (by show RetTwo _ _ _ _ _ _; rw [HY.out]; exact ⟨_, rfl, ⟨A1, c1, rfl, ho2⟩, WW.setCell (by simp <;> omega) _⟩)
                  · replace HX3 : Hid (rdS b (strL s) = (0, 9)) := (show rdS b (strL s) = _ by rw [HX3.out, HV.out, limS_big h64])
                    have l3 : decide (((nw S : Nat) : Int) > 64) = true := by simp; omega
                    go_wp2_with fail
                    exact bodyPost_ret (v := .tuple #[.agg #[.slice none 0 0], .int .i64 9]) (by simp [results, Try.results16, go_sem, kXR, zXR]) rfl (by show RetTwo _ _ _ _ _ _; rw [HX3.out]; exact ⟨_, rfl, NatV.nil _ _, WW.setCell (by simp <;> omega) _⟩)
        · have l2 : (((c0 : Nat) : Int) == 48) = false := by simp; omega
          go_enter Try.func16, Try.ntmps16
          go_wp2_with fail
          clear k0 f0 z0 he1 hc0' l2
          generalize hV : (w.alloc (.cells #[.slice none 0 0] 24)) = V0 at b0 WW ⊢
          clear hV
          go_loopw [6] (fun i wr => ∃ k : Nat, k ≤ s.size ∧ i = .int .i64 ((k : Nat) : Int) ∧ wr = V0 ∧ Hid (∀ c ∈ (strL s).take k, digC c < b)) (fun i wr => s.size - (intOf i).toNat)
          case atStart => exact ⟨0, Nat.zero_le _, by go_num, rfl, (show ∀ c ∈ (strL s).take 0, digC c < b by simp)⟩
          case round =>
            obtain ⟨k, hk, rfl, rfl, HD⟩ := hrel
            have k0 := b0.cell0
            have z0 := b0.lt
            have f0 := b0.frozen 0
            by_cases hks : k < s.size
            · obtain ⟨c, hc⟩ : ∃ c, c = s[k].toNat := ⟨_, rfl⟩
              have hc' : s[k].toNat = c := hc.symm
              have hc255 : c ≤ 255 := by rw [hc]; have := UInt8.toNat_lt s[k]; omega
              have hkl : k < (strL s).length := by rw [strL_len]; exact hks
              have hcl : (strL s)[k] = c := by rw [strL_at s hks, hc]
              clear hc
              have HCL := hid hcl
              clear hcl
              have hd1 := rvalue_any c b wr hc255 (by omega)
              by_cases hyb : digC c < b
              · obtain ⟨v, hv⟩ : ∃ v, v = (valC b c).1 := ⟨_, rfl⟩
                rw [← hv, (valC_dig hb c).1, decide_eq_true hyb] at hd1
                clear hv
                go_wp2_with (go_at_call 28; refine hd1.mono ?_; clear hd1; rintro e w' ⟨rfl, rfl⟩)
                go_roundw
                case rel => exact ⟨k + 1, by omega, by go_num, trivial, (show ∀ c ∈ (strL s).take (k + 1), digC c < b by
                  intro c2 hc2
                  rw [List.take_succ_eq_append_getElem hkl] at hc2
                  rcases List.mem_append.1 hc2 with h | h
                  · exact HD.out c2 h
                  · rw [List.mem_singleton.1 h, HCL.out]; exact hyb)⟩
                case measure => simp [intOf] <;> omega
              · obtain ⟨v, hv⟩ : ∃ v, v = (valC b c).1 := ⟨_, rfl⟩
                rw [← hv, (valC_dig hb c).1, decide_eq_false hyb] at hd1
                clear hv
                have HX3 : Hid (rdS b (strL s) = (0, 3)) := (show _ = _ by
                  rw [HX.out, if_neg]
                  intro h
                  have h2 := List.all_eq_true.1 h _ (List.getElem_mem hkl)
                  rw [HCL.out] at h2
                  exact hyb (of_decide_eq_true h2))
                go_wp2_with (go_at_call 28; refine hd1.mono ?_; clear hd1; rintro e w' ⟨rfl, rfl⟩)
                exact bodyPost_ret (v := .tuple #[.agg #[.slice none 0 0], .int .i64 3]) (by simp [results, Try.results16, go_sem, k0]) rfl (by rw [HX3.out]; exact ⟨_, rfl, NatV.nil _ _, (WW.setCell (by simp) _)⟩)
            · obtain rfl : k = s.size := by omega
              have HALL : Hid (∀ c ∈ strL s, digC c < b) := (show ∀ c ∈ strL s, digC c < b by
                intro c hc
                exact HD.out c (by rw [List.take_of_length_le (Nat.le_of_eq (strL_len s))]; exact hc))
              have HX3 : Hid (rdS b (strL s) = limS (vb b ((strL s).map digC))) := (show _ = _ by
                rw [HX.out, if_pos]
                rw [List.all_eq_true]
                intro c hc
                have := HALL.out c hc
                simpa using this)
              obtain ⟨l, hl⟩ : ∃ l, l = (strL s).map digC := ⟨_, rfl⟩
              rw [← hl] at HX3
              have HL : Hid (l.length = s.size) := (show l.length = s.size by rw [hl, List.length_map, strL_len])
              have HLM := hid hl
              clear hl HD HX k0 z0 f0
              go_wp2_with fail
              obtain ⟨n, hn⟩ : ∃ n, n = s.size := ⟨_, rfl⟩
              have XR : VB w.heap.size wr w.heap.size none 0 0 0 := ⟨b0, .inr (Own.nil _ _ _ _ (Nat.zero_le _)), Nat.le_refl _⟩
              clear b0
              have hn2 : s.size ≤ 1000 := by omega
              go_loopw [9, 10] (fun o i wr => ∃ (k : Nat), k ≤ s.size ∧ i = .int .i64 ((k : Nat) : Int) ∧ Hid (nw (vb b (l.take k)) ≤ k) ∧ OwnsV wr w.heap.size o (nw (vb b (l.take k))) (vb b (l.take k)) ∧ Below w.heap.size w wr ∧ VB w.heap.size wr (w.heap.size) none 0 0 0) (fun o i wr => s.size - (intOf i).toNat)
              case atStart => exact ⟨0, Nat.zero_le _, by go_num, (show nw (vb b (l.take 0)) ≤ 0 by simp [vb, nw]), OwnsV.none_ _ _, WW, XR⟩
              case round =>
                clear WW XR
                obtain ⟨k, hk, rfl, HNW, HO, WW, XR⟩ := hrel
                have kXR := XR.cell
                have zXR := XR.lt
                obtain ⟨S, hS⟩ : ∃ S, S = vb b (l.take k) := ⟨_, rfl⟩
                rw [← hS] at HNW HO
                have HS := hid hS
                clear hS
                obtain ⟨A1, c1, rfl, hown⟩ := HO.own
                have hns := HNW.out
                by_cases hkn : k < s.size
                · have hkl : k < l.length := by rw [HL.out]; exact hkn
                  have hkl2 : k < (strL s).length := by rw [strL_len]; exact hkn
                  obtain ⟨c, hc⟩ : ∃ c, c = s[k].toNat := ⟨_, rfl⟩
                  have hc' : s[k].toNat = c := hc.symm
                  have hc255 : c ≤ 255 := by rw [hc]; have := UInt8.toNat_lt s[k]; omega
                  have hcl : (strL s)[k] = c := by rw [strL_at s hkn, hc]
                  clear hc
                  have hyb : digC c < b := by rw [← hcl]; exact HALL.out _ (List.getElem_mem _)
                  have hd1 := rvalue_any c b wr hc255 (by omega)
                  rw [(valC_dig hb c).2 hyb, (valC_dig hb c).1, decide_eq_true hyb] at hd1
                  obtain ⟨y, hy0⟩ : ∃ y, y = digC c := ⟨_, rfl⟩
                  rw [← hy0] at hd1 hyb
                  have HT : Hid (S * b + y = vb b (l.take (k + 1))) := (show _ = _ by rw [vb_take hkl, HS.out, hy0, ← hcl]; simp only [HLM.out, List.getElem_map])
                  have l2 : decide (((k : Nat) : Int) < ((s.size : Nat) : Int)) = true := by simpa using hkn
                  clear hy0 hcl
                  go_wp2_with (go_at_call 28; refine hd1.mono ?_; clear hd1; rintro e w' ⟨rfl, rfl⟩)
                  have hc : Calls Try.prog 29 #[.slice A1 (nw S) c1, .int .u64 ((b : Nat) : Int), .int .u64 ((y : Nat) : Int)] w' _ := times_any A1 (nw S) c1 S w'.heap.size b y w' hown.num (Nat.le_refl _) (by omega) (by omega) hyb
                  refine hc.mono ?_
                  clear hc
                  rintro e V1 ⟨v, k2, rfl, ho, h1, h2, h3, hb3⟩
                  have HK2 : Hid (nw (S * b + y) = k2) := nw_grow (by exact Nat.le_trans (Nat.le_mul_of_pos_right _ hb0) (Nat.le_add_right _ _)) ho.1 h1 h3 h2
                  rw [HT.out] at HK2 ho
                  have ho2 : OwnsV V1 w.heap.size v k2 (vb b (l.take (k + 1))) := ho.weak WW.size
                  replace XR := XR.below hb3
                  replace WW := WW.trans (hb3.mono WW.size)
                  have HWW := hid WW
                  have HXR := hid XR
                  have HO2 := hid ho2
                  clear ho ho2 hb3 kXR zXR XR WW HO hown
                  go_wp2_with fail
                  go_roundw
                  case rel => exact ⟨k + 1, by omega, by go_num, (show nw _ ≤ k + 1 by rw [HK2.out]; omega), by rw [HK2.out]; exact HO2.out, HWW.out, HXR.out⟩
                  case measure => simp [intOf] <;> omega
                · obtain rfl : k = s.size := by omega
                  have l2 : decide (((s.size : Nat) : Int) < ((s.size : Nat) : Int)) = false := by simp
                  have HV : Hid (vb b l = S) := (show vb b l = S by rw [HS.out, List.take_of_length_le (Nat.le_of_eq HL.out)])
                  have fXR := XR.1.frozen 0
                  by_cases h64 : nw S ≤ 64
                  · have HY : Hid (rdS b (strL s) = (S, 0)) := (show rdS b (strL s) = _ by rw [HX3.out, HV.out, limS_ok h64])
                    have l3 : decide (((nw S : Nat) : Int) > 64) = false := by simp; omega
                    go_wp2_with fail
                    have ho2 := hown.box (p := ⟨w.heap.size, 0, none⟩) XR.1 (by decide) (.slice A1 (nw S) c1)
                    exact bodyPost_ret (v := .tuple #[.agg #[.slice A1 (nw S) c1], .int .i64 0]) (by simp [results, Try.results16, go_sem, kXR, zXR]) rfl (by show RetTwo _ _ _ _ _ _; rw [HY.out]; exact ⟨_, rfl, ⟨A1, c1, rfl, ho2⟩, WW.setCell (by simp <;> omega) _⟩)
                  · replace HX3 : Hid (rdS b (strL s) = (0, 9)) := (show rdS b (strL s) = _ by rw [HX3.out, HV.out, limS_big h64])
                    have l3 : decide (((nw S : Nat) : Int) > 64) = true := by simp; omega
                    go_wp2_with fail
                    exact bodyPost_ret (v := .tuple #[.agg #[.slice none 0 0], .int .i64 9]) (by simp [results, Try.results16, go_sem, kXR, zXR]) rfl (by show RetTwo _ _ _ _ _ _; rw [HX3.out]; exact ⟨_, rfl, NatV.nil _ _, WW.setCell (by simp <;> omega) _⟩)
end Go.Proofs.Ytohiimpjcgcaiaa
