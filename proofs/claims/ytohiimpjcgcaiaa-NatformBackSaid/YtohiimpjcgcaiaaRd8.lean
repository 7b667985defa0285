/- the reference of layer 4: FromBytes. -/
import Derived.Test.YtohiimpjcgcaiaaRd7
set_option linter.unusedVariables false
set_option linter.unusedSimpArgs false
namespace Go.Proofs.Ytohiimpjcgcaiaa
open Go.RowKit

/-- A slice that reads as the bytes l, below block B. -/
def BN (w : World) (B : Nat) (A : Option Addr) (l : List Nat) : Prop := ∀ i (h : i < l.length), ∃ ad, A = some ad ∧ ad.block < B ∧ w.cell? (ad.add i) = some (byt l[i]) ∧ l[i] ≤ 255
theorem BN.below {w w' : World} {B : Nat} {A : Option Addr} {l : List Nat} (h : BN w B A l) (hb : Below B w w') : BN w' B A l := by
  intro i hi
  obtain ⟨ad, e, h1, h2, h3⟩ := h i hi
  exact ⟨ad, e, h1, (hb.cell (p := ad.add i) (by show (ad.add i).block < B; unfold Addr.add; split <;> exact h1)).trans h2, h3⟩
/-- The number with these digits in base b, the highest one first. -/
def vb (b : Nat) (l : List Nat) : Nat := l.foldl (fun v d => v * b + d) 0
theorem vb_take {b : Nat} {l : List Nat} {k : Nat} (h : k < l.length) : vb b (l.take (k + 1)) = vb b (l.take k) * b + l[k] := by
  unfold vb; rw [List.take_succ_eq_append_getElem h, List.foldl_append]; rfl
/-- What FromBytes returns. -/
def fbS (l : List Nat) : Nat × Int := if 1000 < l.length then (0, 5) else limS (vb 256 l)
theorem OwnsV.weak {w : World} {base b k s : Nat} {v : Value} (h : OwnsV w base v k s) (hb : b ≤ base) : OwnsV w b v k s := by
  refine ⟨h.1, h.2.1, ?_⟩
  rcases h.2.2 with h1 | ⟨g, c, cur, h1, h2, h3⟩
  · exact .inl h1
  · exact .inr ⟨g, c, cur, h1, by omega, h3⟩
theorem nw_grow {S T k : Nat} (h1 : S ≤ T) (h2 : T < 2 ^ (32 * k)) (h3 : nw S ≤ k) (h4 : k ≤ nw S + 1) (h5 : nw S < k → 2 ^ (32 * nw S) ≤ T) : nw T = k := by
  have h6 := nw_le h2
  have h7 := nw_mono h1
  rcases Nat.lt_or_ge (nw S) k with h | h
  · have h8 := h5 h
    have h9 : nw S < nw T := by
      rcases Nat.lt_or_ge (nw S) (nw T) with h | h
      · exact h
      · have := Nat.lt_of_lt_of_le (lt_nw T) (pw_le h); omega
    omega
  · omega
set_option maxHeartbeats 4000000 in
set_option maxRecDepth 100000 in
theorem rfrom_any (A : Option Addr) (n c : Nat) (l : List Nat) (w : World) (hA : BN w w.heap.size A l) (hl : l.length = n) (hn : n ≤ 9223372036854775807) :
    Calls Try.prog 22 #[.slice A n c] w (RetTwo w.heap.size (fbS l).1 (fbS l).2 w) := by
  have HL := hid hl
  clear hl
  by_cases h0 : 1000 < n
  · have HX : Hid (fbS l = (0, 5)) := (show fbS l = (0, 5) by unfold fbS; rw [HL.out, if_pos h0])
    have l1 : decide (((n : Nat) : Int) > 1000) = true := by simp; omega
    have kXR : (w.alloc (.cells #[.slice none 0 0] 24)).cell? ⟨w.heap.size, 0, none⟩ = some (.slice none 0 0) := (Blk.new w 24 #[.slice none 0 0]).cell0
    have fXR := (Blk.new w 24 #[.slice none 0 0]).frozen 0
    have WW := (Below.refl w.heap.size w).alloc (Nat.le_refl _) (.cells #[.slice none 0 0] 24)
    have zXR : w.heap.size < (w.alloc (.cells #[.slice none 0 0] 24)).heap.size := by simp
    go_enter Try.func22, Try.ntmps22
    go_wp2_with fail
    exact bodyPost_ret (v := .tuple #[.agg #[.slice none 0 0], .int .i64 5]) (by simp [results, Try.results22, go_sem, kXR, zXR]) rfl (by show RetTwo _ _ _ _ _ _; rw [HX.out]; exact ⟨_, rfl, NatV.nil _ _, WW⟩)
  · have HX : Hid (fbS l = limS (vb 256 l)) := (show fbS l = _ by unfold fbS; rw [HL.out, if_neg h0])
    have l1 : decide (((n : Nat) : Int) > 1000) = false := by simp; omega
    have hn2 : n ≤ 1000 := by omega
    clear h0
    obtain ⟨b0, bw⟩ := boxes1 w (.slice none 0 0)
    have XR := VB.mk (B := w.heap.size) (a := 0) b0 (.inr (Own.nil _ _ _ _ (Nat.zero_le _))) bw (Nat.le_refl _) (by omega)
    have WW := bw
    clear bw b0
    go_enter Try.func22, Try.ntmps22
    go_wp2_with fail
    generalize hV : (w.alloc (.cells #[.slice none 0 0] 24)) = V0 at XR WW ⊢
    clear hV
    go_loopw [4, 5] (fun o i wr => ∃ (k : Nat), k ≤ n ∧ i = .int .i64 ((k : Nat) : Int) ∧ Hid (nw (vb 256 (l.take k)) ≤ k) ∧ OwnsV wr w.heap.size o (nw (vb 256 (l.take k))) (vb 256 (l.take k)) ∧ Below w.heap.size w wr ∧ VB w.heap.size wr (w.heap.size) none 0 0 0) (fun o i wr => n - (intOf i).toNat)
    case atStart => exact ⟨0, Nat.zero_le _, by go_num, (show nw (vb 256 (l.take 0)) ≤ 0 by simp [vb, nw]), OwnsV.none_ _ _, WW, XR⟩
    case round =>
      clear WW XR
      obtain ⟨k, hk, rfl, HNW, HO, WW, XR⟩ := hrel
      have kXR := XR.cell
      have zXR := XR.lt
      obtain ⟨S, hS⟩ : ∃ S, S = vb 256 (l.take k) := ⟨_, rfl⟩
      rw [← hS] at HNW HO
      have HS := hid hS
      clear hS
      obtain ⟨A1, c1, rfl, hown⟩ := HO.own
      have hns := HNW.out
      by_cases hkn : k < n
      · have hkl : k < l.length := by rw [HL.out]; exact hkn
        obtain ⟨ad, rfl, hab, hac, hy⟩ := (hA.below WW) k hkl
        unfold byt at hac
        obtain ⟨y, hy0⟩ : ∃ y, y = l[k] := ⟨_, rfl⟩
        rw [← hy0] at hac hy
        have HT : Hid (S * 256 + y = vb 256 (l.take (k + 1))) := (show _ = _ by rw [vb_take hkl, HS.out, hy0])
        have l2 : decide (((k : Nat) : Int) < ((n : Nat) : Int)) = true := by simpa using hkn
        clear hy0
        go_wp2_with fail
        have hc : Calls Try.prog 29 #[.slice A1 (nw S) c1, .int .u64 256, .int .u64 ((y : Nat) : Int)] wr _ := times_any A1 (nw S) c1 S wr.heap.size 256 y wr hown.num (Nat.le_refl _) (by omega) (by decide) (by omega)
        refine hc.mono ?_
        clear hc
        rintro e V1 ⟨v, k2, rfl, ho, h1, h2, h3, hb⟩
        have HK2 : Hid (nw (S * 256 + y) = k2) := nw_grow (by omega) ho.1 h1 h3 h2
        rw [HT.out] at HK2 ho
        have ho2 : OwnsV V1 w.heap.size v k2 (vb 256 (l.take (k + 1))) := ho.weak WW.size
        replace XR := XR.below hb
        replace WW := WW.trans (hb.mono WW.size)
        have HWW := hid WW
        have HXR := hid XR
        have HO2 := hid ho2
        clear ho ho2 hb kXR zXR XR WW HO hown
        go_wp2_with fail
        go_roundw
        case rel => exact ⟨k + 1, by omega, by go_num, (show nw _ ≤ k + 1 by rw [HK2.out]; omega), by rw [HK2.out]; exact HO2.out, HWW.out, HXR.out⟩
        case measure => simp [intOf] <;> omega
      · obtain rfl : k = n := by omega
        have l2 : decide (((k : Nat) : Int) < ((k : Nat) : Int)) = false := by simp
        have HV : Hid (vb 256 l = S) := (show vb 256 l = S by rw [HS.out, List.take_of_length_le (Nat.le_of_eq HL.out)])
        have fXR := XR.1.frozen 0
        by_cases h64 : nw S ≤ 64
        · have HY : Hid (fbS l = (S, 0)) := (show fbS l = _ by rw [HX.out, HV.out, limS_ok h64])
          have l3 : decide (((nw S : Nat) : Int) > 64) = false := by simp; omega
          go_wp2_with fail
          have ho2 := hown.box (p := ⟨w.heap.size, 0, none⟩) XR.1 (by decide) (.slice A1 (nw S) c1)
          exact bodyPost_ret (v := .tuple #[.agg #[.slice A1 (nw S) c1], .int .i64 0]) (by simp [results, Try.results22, go_sem, kXR, zXR]) rfl (by show RetTwo _ _ _ _ _ _; rw [HY.out]; exact ⟨_, rfl, ⟨A1, c1, rfl, ho2⟩, WW.setCell (by simp <;> omega) _⟩)
        · replace HX : Hid (fbS l = (0, 9)) := (show fbS l = _ by rw [HX.out, HV.out, limS_big h64])
          have l3 : decide (((nw S : Nat) : Int) > 64) = true := by simp; omega
          go_wp2_with fail
          exact bodyPost_ret (v := .tuple #[.agg #[.slice none 0 0], .int .i64 9]) (by simp [results, Try.results22, go_sem, kXR, zXR]) rfl (by show RetTwo _ _ _ _ _ _; rw [HX.out]; exact ⟨_, rfl, NatV.nil _ _, WW.setCell (by simp <;> omega) _⟩)

end Go.Proofs.Ytohiimpjcgcaiaa
