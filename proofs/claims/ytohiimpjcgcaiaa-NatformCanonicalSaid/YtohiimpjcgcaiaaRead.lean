/- natform.read, Parse, ParseHex, FromBytes. -/
import Derived.Test.YtohiimpjcgcaiaaRng
set_option linter.unusedVariables false
set_option linter.unusedSimpArgs false
namespace Go.Proofs.Ytohiimpjcgcaiaa
open Go Go.RowKit

/-- The bytes of a string. -/
def strL (s : ByteArray) : List Nat := s.data.toList.map UInt8.toNat
theorem strL_len (s : ByteArray) : (strL s).length = s.size := by simp [strL]
/-- What a string in base b is read as. -/
def rdS (b : Nat) (l : List Nat) : Nat × Int :=
  if 1000 < l.length then (0, 5) else if l = [] ∨ (l[0]? = some 48 ∧ l.length ≠ 1) then (0, 3) else if l.all (fun c => decide (digC c < b)) then limS (vb b (l.map digC)) else (0, 3)

theorem str_empty {s : ByteArray} (h : s.size = 0) : s.toList.isEmpty = true := by
  rw [Lib.toList_data]
  have h2 : s.data.toList.length = 0 := h
  rw [List.length_eq_zero_iff.1 h2]; rfl
theorem str_some {s : ByteArray} (h : ¬ s.size = 0) : s.toList.isEmpty = false := by
  rw [Lib.toList_data]
  have h2 : ¬ s.data.toList.length = 0 := h
  cases hs : s.data.toList with
  | nil => rw [hs] at h2; exact absurd rfl h2
  | cons x xs => rfl
theorem strL_at (s : ByteArray) {k : Nat} (h : k < s.size) : (strL s)[k]'(by rw [strL_len]; exact h) = s[k].toNat := by
  simp only [strL, List.getElem_map]; rfl
theorem strL_nil {s : ByteArray} (h : s.size = 0) : strL s = [] := List.length_eq_zero_iff.1 (by rw [strL_len]; exact h)
theorem str_one {s : ByteArray} (h : s.size = 1) (h0 : (s[0]'(by omega)).toNat = 48) : (s.toList == [48]) = true := by
  rw [Lib.toList_data]
  have h2 : s.data.toList.length = 1 := h
  have e : (s[0]'(by omega)) = s.data.toList[0]'(by omega) := rfl
  rw [e] at h0
  match hl : s.data.toList, h2 with
  | [x], _ =>
    have h3 : x.toNat = 48 := by simp only [hl] at h0; exact h0
    have h4 : x = 48 := UInt8.toNat_inj.1 h3
    rw [h4]; rfl
theorem str_more {s : ByteArray} (h : ¬ s.size = 1) : (s.toList == [48]) = false := by
  rw [Lib.toList_data]
  have h2 : ¬ s.data.toList.length = 1 := h
  rw [beq_eq_false_iff_ne]
  intro e
  rw [e] at h2
  exact h2 rfl
theorem bad_form (w : World) (b : Nat) (l : List Nat) (h : rdS b l = (0, 3)) (V : World) (k : V.cell? ⟨w.heap.size, 0, none⟩ = some (.slice none 0 0)) (hb : Below w.heap.size w V) :
    RetTwo w.heap.size (rdS b l).1 (rdS b l).2 w (.returned (.tuple #[.agg #[.slice none 0 0], .int .i64 3])) V := by
  rw [h]; exact ⟨_, rfl, NatV.nil _ _, hb⟩
/-- The row of digits, k of them laid. -/
def rowD (l : List Nat) (k : Nat) : List Nat := (l.take k).map digC ++ List.replicate (l.length - k) 0
theorem rowD_len {l : List Nat} {k : Nat} (h : k ≤ l.length) : (rowD l k).length = l.length := by simp [rowD]; omega
theorem rowD_set {l : List Nat} {k : Nat} (h : k < l.length) : (rowD l k).set k (digC l[k]) = rowD l (k + 1) := by
  unfold rowD
  have h2 : ((l.take k).map digC).length = k := by simp; omega
  rw [List.set_append_right _ _ (by omega), h2, Nat.sub_self]
  have h3 : l.length - k = (l.length - (k + 1)) + 1 := by omega
  rw [h3, List.replicate_succ, List.set_cons_zero, List.take_succ_eq_append_getElem h, List.map_append, List.append_assoc]
  rfl
theorem rowD_all (l : List Nat) : rowD l l.length = l.map digC := by simp [rowD]
theorem Blk.bn {w : World} {g : Nat} {l : List Nat} (h : Blk w g 5 (l.map byt).toArray) (hl : ∀ x ∈ l, x ≤ 255) : BN w w.heap.size (some ⟨g, 0, none⟩) l := fun i hi =>
  ⟨_, rfl, h.lt, by rw [add_at, Nat.zero_add, h.cell i]; simp [hi], hl _ (List.getElem_mem hi)⟩

def zrow (n : Nat) : Array Value := ((List.replicate n 0).map byt).toArray
theorem make_zrow (n : Nat) (h : n ≤ 1000000) (w : World) : (Instr.makeSlice 37 (.int .i64 (n : Int)) (.int .i64 (n : Int))).run Try.prog w = .ok (.slice (some ⟨w.heap.size, 0, none⟩) n n) (w.alloc (.cells (zrow n) 5)) := make_bytes n h w
theorem row_at {D : List Nat} {k : Nat} (h : k < D.length) : ((D.map byt).toArray)[k]? = some (.int .u8 ((D[k] : Nat) : Int)) := by
  rw [List.getElem?_toArray, List.getElem?_map, List.getElem?_eq_getElem h]; rfl
theorem zrow_rowD {l : List Nat} {n : Nat} (h : l.length = n) : zrow n = ((rowD l 0).map byt).toArray := by unfold zrow rowD; rw [h]; simp

set_option maxHeartbeats 4000000 in
set_option maxRecDepth 100000 in
theorem read_any (s : ByteArray) (b : Nat) (w : World) (hs : s.size ≤ 9223372036854775807) (hb : b ≤ 16) (hb0 : 0 < b) :
    Calls Try.prog 27 #[.string s, .int .i64 ((b : Nat) : Int)] w (RetTwo w.heap.size (rdS b (strL s)).1 (rdS b (strL s)).2 w) := by
  have b0 := Blk.new w 24 #[.slice none 0 0]
  have WW := (Below.refl w.heap.size w).alloc (Nat.le_refl _) (.cells #[.slice none 0 0] 24)
  have k0 := b0.cell0
  have f0 := b0.frozen 0
  have z0 := b0.lt
  by_cases h0 : 1000 < s.size
  · have HX : Hid (rdS b (strL s) = (0, 5)) := (show rdS b (strL s) = (0, 5) by unfold rdS; rw [strL_len, if_pos h0])
    have l1 : decide (((s.size : Nat) : Int) > 1000) = true := by simp; omega
    go_enter Try.func27, Try.ntmps27
    go_wp2_with fail
    exact bodyPost_ret (v := .tuple #[.agg #[.slice none 0 0], .int .i64 5]) (by simp [results, Try.results27, go_sem, k0]) rfl (by rw [HX.out]; exact ⟨_, rfl, NatV.nil _ _, WW⟩)
  · have l1 : decide (((s.size : Nat) : Int) > 1000) = false := by simp; omega
    by_cases h1 : s.size = 0
    · have he1 := str_empty h1
      have HX : Hid (rdS b (strL s) = (0, 3)) := (show rdS b (strL s) = (0, 3) by unfold rdS; rw [strL_nil h1]; rfl)
      go_enter Try.func27, Try.ntmps27
      go_wp2_with fail
      exact bodyPost_ret (v := .tuple #[.agg #[.slice none 0 0], .int .i64 3]) (by simp [results, Try.results27, go_sem, k0]) rfl (by rw [HX.out]; exact ⟨_, rfl, NatV.nil _ _, WW⟩)
    · have he1 := str_some h1
      obtain ⟨c0, hc0⟩ : ∃ c0, c0 = (s[0]'(by omega)).toNat := ⟨_, rfl⟩
      have hc0' : (s[0]'(by omega)).toNat = c0 := hc0.symm
      have HC0 : Hid ((strL s)[0]? = some c0) := (show _ = _ by rw [List.getElem?_eq_getElem (by rw [strL_len]; omega), strL_at s (by omega), hc0'])
      clear hc0
      by_cases hz : c0 = 48 ∧ s.size ≠ 1
      · obtain ⟨rfl, h2⟩ := hz
        have hm := str_more h2
        have HX : Hid (rdS b (strL s) = (0, 3)) := (show rdS b (strL s) = (0, 3) by unfold rdS; rw [if_neg (by rw [strL_len]; omega), if_pos (.inr ⟨HC0.out, by rw [strL_len]; exact h2⟩)])
        go_enter Try.func27, Try.ntmps27
        go_wp2_with fail
        exact bodyPost_ret (v := .tuple #[.agg #[.slice none 0 0], .int .i64 3]) (by simp [results, Try.results27, go_sem, k0]) rfl (by rw [HX.out]; exact ⟨_, rfl, NatV.nil _ _, WW⟩)
      · have HX : Hid (rdS b (strL s) = if (strL s).all (fun c => decide (digC c < b)) then limS (vb b ((strL s).map digC)) else (0, 3)) := (show rdS b (strL s) = _ by
          unfold rdS
          rw [if_neg (by rw [strL_len]; omega), if_neg]
          rintro (h | ⟨h, h'⟩)
          · have := strL_len s; rw [h] at this; exact h1 this.symm
          · rw [HC0.out] at h; injection h with h; rw [strL_len] at h'; exact hz ⟨h, h'⟩)
        by_cases h48 : c0 = 48
        · subst h48
          have h3 : s.size = 1 := by
            by_cases h4 : s.size = 1
            · exact h4
            · exact absurd ⟨rfl, h4⟩ hz
          have hsl := str_one h3 hc0'
          clear h3
          have hmk := make_zrow s.size (by omega)
          go_enter Try.func27, Try.ntmps27
          go_wp2_with fail
          clear hmk k0 f0 z0 he1 hc0' hsl
          have g1 := Blk.new (w.alloc (.cells #[.slice none 0 0] 24)) 5 (zrow s.size)
          have W2 := WW.alloc (by simp) (.cells (zrow s.size) 5)
          have g0 := b0.alloc (.cells (zrow s.size) 5)
          simp only [World.size_alloc] at g1
          clear b0 WW
          generalize hV : ((w.alloc (.cells #[.slice none 0 0] 24)).alloc (.cells (zrow s.size) 5)) = V0 at g0 g1 W2 ⊢
          clear hV
          go_loopw [31] (fun i wr => ∃ k : Nat, k ≤ s.size ∧ i = .int .i64 ((k : Nat) : Int) ∧ Blk wr w.heap.size 24 #[.slice none 0 0] ∧ Blk wr (w.heap.size + 1) 5 ((rowD (strL s) k).map byt).toArray ∧ Below w.heap.size w wr ∧ Hid (∀ c ∈ (strL s).take k, digC c < b)) (fun i wr => s.size - (intOf i).toNat)
          case atStart => exact ⟨0, Nat.zero_le _, by go_num, g0, by rw [← zrow_rowD (strL_len s)]; exact g1, W2, (show ∀ c ∈ (strL s).take 0, digC c < b by simp)⟩
          case round =>
            clear g0 g1 W2
            obtain ⟨k, hk, rfl, g0, g1, WW, HD⟩ := hrel
            have k0 := g0.cell0
            have z0 := g0.lt
            have f0 := g0.frozen 0
            by_cases hks : k < s.size
            · obtain ⟨c, hc⟩ : ∃ c, c = s[k].toNat := ⟨_, rfl⟩
              have hc' : s[k].toNat = c := hc.symm
              have hc255 : c ≤ 255 := by rw [hc]; have := UInt8.toNat_lt s[k]; omega
              have hkl : k < (strL s).length := by rw [strL_len]; exact hks
              have hcl : (strL s)[k] = c := by rw [strL_at s hks, hc]
              clear hc
              have hy16 : digC c ≤ 16 := by unfold digC; split <;> (try split) <;> omega
              obtain ⟨y, hy⟩ : ∃ y, y = digC c := ⟨_, rfl⟩
              have HS : Hid ((rowD (strL s) k).set k y = rowD (strL s) (k + 1)) := (show _ = _ by rw [hy, ← hcl]; exact rowD_set hkl)
              have hrl : (rowD (strL s) k).length = s.size := by rw [rowD_len (by omega), strL_len]
              have g1k : wr.cell? ⟨w.heap.size + 1, k, none⟩ = some (.int .u8 (((rowD (strL s) k)[k]'(by omega) : Nat) : Int)) := by rw [g1.cell k]; exact row_at (by omega)
              have g1f := g1.frozen k
              have z1 := g1.lt
              obtain ⟨old, hold⟩ : ∃ old, old = (rowD (strL s) k)[k]'(by omega) := ⟨_, rfl⟩
              rw [← hold] at g1k
              clear hold hrl
              have hd1 := digit_any c wr hc255
              rw [← hy] at hd1 hy16
              have HCL := hid hcl
              have HY := hid hy
              clear hy hcl
              by_cases hyb : y < b
              · have l5 : decide (((y : Nat) : Int) ≥ ((b : Nat) : Int)) = false := by simp; omega
                go_wp2_with (go_at_call 34; refine hd1.mono ?_; clear hd1; rintro e w' ⟨rfl, rfl⟩)
                have g1' := g1.byte k y
                rw [HS.out] at g1'
                go_roundw
                case rel => exact ⟨k + 1, by omega, by go_num, g0.far (by show w.heap.size ≠ w.heap.size + 1; omega) _, g1', WW.setCell (by simp) _, (show ∀ c ∈ (strL s).take (k + 1), digC c < b by
                  intro c2 hc2
                  rw [List.take_succ_eq_append_getElem hkl] at hc2
                  rcases List.mem_append.1 hc2 with h | h
                  · exact HD.out c2 h
                  · rw [List.mem_singleton.1 h, HCL.out, ← HY.out]; exact hyb)⟩
                case measure => simp [intOf] <;> omega
              · have l5 : decide (((y : Nat) : Int) ≥ ((b : Nat) : Int)) = true := by simp; omega
                have HX3 : Hid (rdS b (strL s) = (0, 3)) := (show _ = _ by
                  rw [HX.out, if_neg]
                  intro h
                  have h2 := List.all_eq_true.1 h _ (List.getElem_mem hkl)
                  rw [HCL.out, ← HY.out] at h2
                  exact hyb (of_decide_eq_true h2))
                go_wp2_with (go_at_call 34; refine hd1.mono ?_; clear hd1; rintro e w' ⟨rfl, rfl⟩)
                exact bodyPost_ret (v := .tuple #[.agg #[.slice none 0 0], .int .i64 3]) (by simp [results, Try.results27, go_sem, k0]) rfl (by rw [HX3.out]; exact ⟨_, rfl, NatV.nil _ _, (WW.setCell (by simp) _).setCell (by simp) _⟩)
            · obtain rfl : k = s.size := by omega
              have HX3 : Hid (rdS b (strL s) = limS (vb b ((strL s).map digC))) := (show _ = _ by
                rw [HX.out, if_pos]
                rw [List.all_eq_true]
                intro c hc
                have := HD.out c (by rw [List.take_of_length_le (Nat.le_of_eq (strL_len s))]; exact hc)
                simpa using this)
              have e1 : rowD (strL s) s.size = (strL s).map digC := by rw [← strL_len s]; exact rowD_all _
              rw [e1] at g1
              clear e1
              have hdd : ∀ d ∈ (strL s).map digC, d < b := by
                intro d hd
                obtain ⟨c, hc, rfl⟩ := List.mem_map.1 hd
                exact HD.out c (by rw [List.take_of_length_le (Nat.le_of_eq (strL_len s))]; exact hc)
              have hc := numb_any (some ⟨w.heap.size + 1, 0, none⟩) s.size s.size b ((strL s).map digC) wr (g1.bn (fun x hx => by have := hdd x hx; omega)) (by simp [strL_len]) (by omega) (Nat.le_refl _) (by omega) (by omega) hb0 hdd
              rw [← HX3.out] at hc
              have HC := hid hc
              clear hc hdd g1
              go_wp2_with fail
              refine HC.out.mono ?_
              clear HC
              rintro e V2 ⟨v, rfl, hv, hb2⟩
              obtain ⟨A2, c2, rfl, O2⟩ := hv
              clear k0 z0 f0
              replace g0 := g0.below hb2 g0.lt
              replace O2 := O2.weak (b := w.heap.size) WW.size
              replace WW := WW.trans (hb2.mono WW.size)
              have k0 := g0.cell0
              have z0 := g0.lt
              have f0 := g0.frozen 0
              clear hb2
              go_wp2_with fail
              have O3 := O2.box (p := ⟨w.heap.size, 0, none⟩) g0 (by decide) (.slice A2 (nw (rdS b (strL s)).1) c2)
              exact bodyPost_ret (v := .tuple #[.agg #[.slice A2 (nw (rdS b (strL s)).1) c2], .int .i64 (rdS b (strL s)).2]) (by simp [results, Try.results27, go_sem, k0, z0]) rfl ⟨_, rfl, ⟨A2, c2, rfl, O3⟩, WW.setCell (by simp) _⟩
        · have l2 : (((c0 : Nat) : Int) == 48) = false := by simp; omega
          have hmk := make_zrow s.size (by omega)
          go_enter Try.func27, Try.ntmps27
          go_wp2_with fail
          clear hmk k0 f0 z0 he1 hc0' l2
          have g1 := Blk.new (w.alloc (.cells #[.slice none 0 0] 24)) 5 (zrow s.size)
          have W2 := WW.alloc (by simp) (.cells (zrow s.size) 5)
          have g0 := b0.alloc (.cells (zrow s.size) 5)
          simp only [World.size_alloc] at g1
          clear b0 WW
          generalize hV : ((w.alloc (.cells #[.slice none 0 0] 24)).alloc (.cells (zrow s.size) 5)) = V0 at g0 g1 W2 ⊢
          clear hV
          go_loopw [31] (fun i wr => ∃ k : Nat, k ≤ s.size ∧ i = .int .i64 ((k : Nat) : Int) ∧ Blk wr w.heap.size 24 #[.slice none 0 0] ∧ Blk wr (w.heap.size + 1) 5 ((rowD (strL s) k).map byt).toArray ∧ Below w.heap.size w wr ∧ Hid (∀ c ∈ (strL s).take k, digC c < b)) (fun i wr => s.size - (intOf i).toNat)
          case atStart => exact ⟨0, Nat.zero_le _, by go_num, g0, by rw [← zrow_rowD (strL_len s)]; exact g1, W2, (show ∀ c ∈ (strL s).take 0, digC c < b by simp)⟩
          case round =>
            clear g0 g1 W2
            obtain ⟨k, hk, rfl, g0, g1, WW, HD⟩ := hrel
            have k0 := g0.cell0
            have z0 := g0.lt
            have f0 := g0.frozen 0
            by_cases hks : k < s.size
            · obtain ⟨c, hc⟩ : ∃ c, c = s[k].toNat := ⟨_, rfl⟩
              have hc' : s[k].toNat = c := hc.symm
              have hc255 : c ≤ 255 := by rw [hc]; have := UInt8.toNat_lt s[k]; omega
              have hkl : k < (strL s).length := by rw [strL_len]; exact hks
              have hcl : (strL s)[k] = c := by rw [strL_at s hks, hc]
              clear hc
              have hy16 : digC c ≤ 16 := by unfold digC; split <;> (try split) <;> omega
              obtain ⟨y, hy⟩ : ∃ y, y = digC c := ⟨_, rfl⟩
              have HS : Hid ((rowD (strL s) k).set k y = rowD (strL s) (k + 1)) := (show _ = _ by rw [hy, ← hcl]; exact rowD_set hkl)
              have hrl : (rowD (strL s) k).length = s.size := by rw [rowD_len (by omega), strL_len]
              have g1k : wr.cell? ⟨w.heap.size + 1, k, none⟩ = some (.int .u8 (((rowD (strL s) k)[k]'(by omega) : Nat) : Int)) := by rw [g1.cell k]; exact row_at (by omega)
              have g1f := g1.frozen k
              have z1 := g1.lt
              obtain ⟨old, hold⟩ : ∃ old, old = (rowD (strL s) k)[k]'(by omega) := ⟨_, rfl⟩
              rw [← hold] at g1k
              clear hold hrl
              have hd1 := digit_any c wr hc255
              rw [← hy] at hd1 hy16
              have HCL := hid hcl
              have HY := hid hy
              clear hy hcl
              by_cases hyb : y < b
              · have l5 : decide (((y : Nat) : Int) ≥ ((b : Nat) : Int)) = false := by simp; omega
                go_wp2_with (go_at_call 34; refine hd1.mono ?_; clear hd1; rintro e w' ⟨rfl, rfl⟩)
                have g1' := g1.byte k y
                rw [HS.out] at g1'
                go_roundw
                case rel => exact ⟨k + 1, by omega, by go_num, g0.far (by show w.heap.size ≠ w.heap.size + 1; omega) _, g1', WW.setCell (by simp) _, (show ∀ c ∈ (strL s).take (k + 1), digC c < b by
                  intro c2 hc2
                  rw [List.take_succ_eq_append_getElem hkl] at hc2
                  rcases List.mem_append.1 hc2 with h | h
                  · exact HD.out c2 h
                  · rw [List.mem_singleton.1 h, HCL.out, ← HY.out]; exact hyb)⟩
                case measure => simp [intOf] <;> omega
              · have l5 : decide (((y : Nat) : Int) ≥ ((b : Nat) : Int)) = true := by simp; omega
                have HX3 : Hid (rdS b (strL s) = (0, 3)) := (show _ = _ by
                  rw [HX.out, if_neg]
                  intro h
                  have h2 := List.all_eq_true.1 h _ (List.getElem_mem hkl)
                  rw [HCL.out, ← HY.out] at h2
                  exact hyb (of_decide_eq_true h2))
                go_wp2_with (go_at_call 34; refine hd1.mono ?_; clear hd1; rintro e w' ⟨rfl, rfl⟩)
                exact bodyPost_ret (v := .tuple #[.agg #[.slice none 0 0], .int .i64 3]) (by simp [results, Try.results27, go_sem, k0]) rfl (by rw [HX3.out]; exact ⟨_, rfl, NatV.nil _ _, (WW.setCell (by simp) _).setCell (by simp) _⟩)
            · obtain rfl : k = s.size := by omega
              have HX3 : Hid (rdS b (strL s) = limS (vb b ((strL s).map digC))) := (show _ = _ by
                rw [HX.out, if_pos]
                rw [List.all_eq_true]
                intro c hc
                have := HD.out c (by rw [List.take_of_length_le (Nat.le_of_eq (strL_len s))]; exact hc)
                simpa using this)
              have e1 : rowD (strL s) s.size = (strL s).map digC := by rw [← strL_len s]; exact rowD_all _
              rw [e1] at g1
              clear e1
              have hdd : ∀ d ∈ (strL s).map digC, d < b := by
                intro d hd
                obtain ⟨c, hc, rfl⟩ := List.mem_map.1 hd
                exact HD.out c (by rw [List.take_of_length_le (Nat.le_of_eq (strL_len s))]; exact hc)
              have hc := numb_any (some ⟨w.heap.size + 1, 0, none⟩) s.size s.size b ((strL s).map digC) wr (g1.bn (fun x hx => by have := hdd x hx; omega)) (by simp [strL_len]) (by omega) (Nat.le_refl _) (by omega) (by omega) hb0 hdd
              rw [← HX3.out] at hc
              have HC := hid hc
              clear hc hdd g1
              go_wp2_with fail
              refine HC.out.mono ?_
              clear HC
              rintro e V2 ⟨v, rfl, hv, hb2⟩
              obtain ⟨A2, c2, rfl, O2⟩ := hv
              clear k0 z0 f0
              replace g0 := g0.below hb2 g0.lt
              replace O2 := O2.weak (b := w.heap.size) WW.size
              replace WW := WW.trans (hb2.mono WW.size)
              have k0 := g0.cell0
              have z0 := g0.lt
              have f0 := g0.frozen 0
              clear hb2
              go_wp2_with fail
              have O3 := O2.box (p := ⟨w.heap.size, 0, none⟩) g0 (by decide) (.slice A2 (nw (rdS b (strL s)).1) c2)
              exact bodyPost_ret (v := .tuple #[.agg #[.slice A2 (nw (rdS b (strL s)).1) c2], .int .i64 (rdS b (strL s)).2]) (by simp [results, Try.results27, go_sem, k0, z0]) rfl ⟨_, rfl, ⟨A2, c2, rfl, O3⟩, WW.setCell (by simp) _⟩

theorem parse_any (s : ByteArray) (w : World) (hs : s.size ≤ 9223372036854775807) :
    Calls Try.prog 15 #[.string s] w (RetTwo w.heap.size (rdS 10 (strL s)).1 (rdS 10 (strL s)).2 w) := by
  have g0 := Blk.new w 24 #[.slice none 0 0]
  have WW := (Below.refl w.heap.size w).alloc (Nat.le_refl _) (.cells #[.slice none 0 0] 24)
  go_enter Try.func15, Try.ntmps15
  go_wp2_with fail
  have hc := read_any s 10 (w.alloc (.cells #[.slice none 0 0] 24)) hs (by decide) (by decide)
  refine hc.mono ?_
  clear hc
  rintro e V2 ⟨v, rfl, hv, hb2⟩
  obtain ⟨A2, c2, rfl, O2⟩ := hv
  replace g0 := g0.below hb2 g0.lt
  replace O2 := O2.weak (b := w.heap.size) WW.size
  replace WW := WW.trans (hb2.mono WW.size)
  have k0 := g0.cell0
  have z0 := g0.lt
  have f0 := g0.frozen 0
  clear hb2
  go_wp2_with fail
  have O3 := O2.box (p := ⟨w.heap.size, 0, none⟩) g0 (by decide) (.slice A2 (nw (rdS 10 (strL s)).1) c2)
  exact bodyPost_ret (v := .tuple #[.agg #[.slice A2 (nw (rdS 10 (strL s)).1) c2], .int .i64 (rdS 10 (strL s)).2]) (by simp [results, Try.results15, go_sem, k0, z0]) rfl ⟨_, rfl, ⟨A2, c2, rfl, O3⟩, WW.setCell (by simp) _⟩
theorem parsehex_any (s : ByteArray) (w : World) (hs : s.size ≤ 9223372036854775807) :
    Calls Try.prog 17 #[.string s] w (RetTwo w.heap.size (rdS 16 (strL s)).1 (rdS 16 (strL s)).2 w) := by
  have g0 := Blk.new w 24 #[.slice none 0 0]
  have WW := (Below.refl w.heap.size w).alloc (Nat.le_refl _) (.cells #[.slice none 0 0] 24)
  go_enter Try.func17, Try.ntmps17
  go_wp2_with fail
  have hc := read_any s 16 (w.alloc (.cells #[.slice none 0 0] 24)) hs (by decide) (by decide)
  refine hc.mono ?_
  clear hc
  rintro e V2 ⟨v, rfl, hv, hb2⟩
  obtain ⟨A2, c2, rfl, O2⟩ := hv
  replace g0 := g0.below hb2 g0.lt
  replace O2 := O2.weak (b := w.heap.size) WW.size
  replace WW := WW.trans (hb2.mono WW.size)
  have k0 := g0.cell0
  have z0 := g0.lt
  have f0 := g0.frozen 0
  clear hb2
  go_wp2_with fail
  have O3 := O2.box (p := ⟨w.heap.size, 0, none⟩) g0 (by decide) (.slice A2 (nw (rdS 16 (strL s)).1) c2)
  exact bodyPost_ret (v := .tuple #[.agg #[.slice A2 (nw (rdS 16 (strL s)).1) c2], .int .i64 (rdS 16 (strL s)).2]) (by simp [results, Try.results17, go_sem, k0, z0]) rfl ⟨_, rfl, ⟨A2, c2, rfl, O3⟩, WW.setCell (by simp) _⟩
/-- What FromBytes returns is what the reference's does: fbS. -/
theorem frombytes_any (A : Option Addr) (n c : Nat) (l : List Nat) (w : World) (hA : BN w w.heap.size A l) (hl : l.length = n) (hn : n ≤ 9223372036854775807) (hnc : n ≤ c) (hcm : c ≤ 9223372036854775807) :
    Calls Try.prog 21 #[.slice A n c] w (RetTwo w.heap.size (fbS l).1 (fbS l).2 w) := by
  have g0 := Blk.new w 24 #[.slice none 0 0]
  have WW := (Below.refl w.heap.size w).alloc (Nat.le_refl _) (.cells #[.slice none 0 0] 24)
  have HL := hid hl
  by_cases h0 : 1000 < n
  · have HX : Hid (fbS l = (0, 5)) := (show fbS l = (0, 5) by unfold fbS; rw [HL.out, if_pos h0])
    have l1 : decide (((n : Nat) : Int) > 1000) = true := by simp; omega
    have k0 := g0.cell0
    have f0 := g0.frozen 0
    have z0 := g0.lt
    clear hl
    go_enter Try.func21, Try.ntmps21
    go_wp2_with fail
    exact bodyPost_ret (v := .tuple #[.agg #[.slice none 0 0], .int .i64 5]) (by simp [results, Try.results21, go_sem, k0]) rfl (by rw [HX.out]; exact ⟨_, rfl, NatV.nil _ _, WW⟩)
  · have HX : Hid (fbS l = limS (vb 256 l)) := (show fbS l = _ by unfold fbS; rw [HL.out, if_neg h0])
    have l1 : decide (((n : Nat) : Int) > 1000) = false := by simp; omega
    have hd : ∀ d ∈ l, d < 256 := by
      intro d hd
      obtain ⟨i, hi, rfl⟩ := List.getElem_of_mem hd
      obtain ⟨_, _, _, _, h⟩ := hA i hi
      omega
    have HC := hid (numb_any A n c 256 l (w.alloc (.cells #[.slice none 0 0] 24)) (fun i hi => by
      obtain ⟨ad, e, h1, h2, h3⟩ := (hA.below WW) i hi
      exact ⟨ad, e, Nat.lt_of_lt_of_le h1 WW.size, h2, h3⟩) hl (by omega) hnc hcm (by decide) (by decide) hd)
    rw [← HX.out] at HC
    clear hl hd hA
    go_enter Try.func21, Try.ntmps21
    go_wp2_with fail
    refine HC.out.mono ?_
    clear HC
    rintro e V2 ⟨v, rfl, hv, hb2⟩
    obtain ⟨A2, c2, rfl, O2⟩ := hv
    replace g0 := g0.below hb2 g0.lt
    replace O2 := O2.weak (b := w.heap.size) WW.size
    replace WW := WW.trans (hb2.mono WW.size)
    have k0 := g0.cell0
    have z0 := g0.lt
    have f0 := g0.frozen 0
    clear hb2
    go_wp2_with fail
    have O3 := O2.box (p := ⟨w.heap.size, 0, none⟩) g0 (by decide) (.slice A2 (nw (fbS l).1) c2)
    exact bodyPost_ret (v := .tuple #[.agg #[.slice A2 (nw (fbS l).1) c2], .int .i64 (fbS l).2]) (by simp [results, Try.results21, go_sem, k0, z0]) rfl ⟨_, rfl, ⟨A2, c2, rfl, O3⟩, WW.setCell (by simp) _⟩
end Go.Proofs.Ytohiimpjcgcaiaa
