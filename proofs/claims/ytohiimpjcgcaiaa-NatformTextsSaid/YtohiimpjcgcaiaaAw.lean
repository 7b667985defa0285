/- The law's awake. -/
import Derived.Test.YtohiimpjcgcaiaaSm
set_option linter.unusedVariables false
set_option linter.unusedSimpArgs false
namespace Go.Proofs.Ytohiimpjcgcaiaa
open Go Go.RowKit

def awS : ByteArray := { data := #[52, 56, 56, 54, 55, 49, 56, 51, 52, 53] }
theorem aw_nw : nw 4886718345 = 2 := by decide
theorem aw_rd : rdS 10 (strL awS) = (4886718345, 0) := by
  have e : strL awS = [52, 56, 56, 54, 55, 49, 56, 51, 52, 53] := by decide
  rw [e]
  decide
theorem aw_bytes : bytesS (nw 4886718345) 4886718345 6 = ([0, 1, 35, 69, 103, 137], 0) := by
  have h1 : okB (nw 4886718345) 4886718345 = true := by decide
  have h2 : ndg 256 4886718345 = 5 := ndg_eq (by decide) (by decide) (by decide)
  have h3 : (0 : Int) ≤ 6 ∧ (6 : Int) ≤ 1000 := by decide
  unfold bytesS
  rw [if_pos h1, if_pos h3, h2]
  unfold bytesL
  rw [show (6 : Int).toNat = 6 from rfl, h2]
  decide
theorem aw_hex : strN (textS 16 (nw 4886718345) 4886718345) = { data := #[49, 50, 51, 52, 53, 54, 55, 56, 57] } := by
  have h1 : okB (nw 4886718345) 4886718345 = true := by decide
  have h2 : ndg 16 4886718345 = 9 := ndg_eq (by decide) (by decide) (by decide)
  unfold textS textN
  rw [if_pos h1, if_neg (by decide), h2]
  decide
/-- A block of bytes as a string. -/
theorem Blk.str {w : World} {g n c : Nat} {l : List Nat} (h : Blk w g 5 (l.map byt).toArray) (hn : l.length = n) : (convert 37 9 (.slice (some ⟨g, 0, none⟩) n c)).run Try.prog w = .ok (.string (strN l)) w := by
  subst hn
  refine run_convert_bytes_arg (P := Try.prog) w 37 5 Try.underlying37 Try.underlying5 g 0 l.length c (l.map fun d => ((d : Nat) : Int)) (by simp) (fun i hi => ?_) 9 Try.underlying9
  rw [Nat.zero_add, h.cell i, row_at hi, List.getD_eq_getElem?_getD, List.getElem?_map, List.getElem?_eq_getElem hi]
  rfl
theorem bytesOf_nat (l : List Nat) : Lib.bytesOf (l.map fun d => ((d : Nat) : Int)) = l.map UInt8.ofNat := by
  unfold Lib.bytesOf; rw [List.map_map]; rfl
theorem ofNat_inj {a b : Nat} (ha : a ≤ 255) (hb : b ≤ 255) (h : UInt8.ofNat a = UInt8.ofNat b) : a = b := by
  have := congrArg UInt8.toNat h
  simp only [UInt8.toNat_ofNat'] at this
  omega
theorem map_ofNat_inj : ∀ {l1 l2 : List Nat}, (∀ x ∈ l1, x ≤ 255) → (∀ x ∈ l2, x ≤ 255) → l1.map UInt8.ofNat = l2.map UInt8.ofNat → l1 = l2
  | [], [], _, _, _ => rfl
  | [], _ :: _, _, _, h => by simp at h
  | _ :: _, [], _, _, h => by simp at h
  | a :: l1, b :: l2, h1, h2, h => by
    simp only [List.map_cons, List.cons.injEq] at h
    rw [ofNat_inj (h1 a (by simp)) (h2 b (by simp)) h.1, map_ofNat_inj (fun x hx => h1 x (by simp [hx])) (fun x hx => h2 x (by simp [hx])) h.2]
theorem bytesOf_eq {l1 l2 : List Nat} (h1 : ∀ x ∈ l1, x ≤ 255) (h2 : ∀ x ∈ l2, x ≤ 255) :
    (Lib.bytesOf (l1.map fun d => ((d : Nat) : Int)) == Lib.bytesOf (l2.map fun d => ((d : Nat) : Int))) = (l1 == l2) := by
  rw [bytesOf_nat, bytesOf_nat, Bool.eq_iff_iff, beq_iff_eq, beq_iff_eq]
  exact ⟨map_ofNat_inj h1 h2, fun h => by rw [h]⟩
theorem equal_any {w : World} {v1 v2 : Value} {l1 l2 : List Nat} (h1 : (convert 37 9 v1).run Try.prog w = .ok (.string (strN l1)) w) (h2 : (convert 37 9 v2).run Try.prog w = .ok (.string (strN l2)) w)
    (hl1 : ∀ x ∈ l1, x ≤ 255) (hl2 : ∀ x ∈ l2, x ≤ 255) : Calls Try.prog 23 #[v1, v2] w (Ex (.bool (l1 == l2)) w) := by
  refine (Try.bytes_Equal v1 v2 (l1.map fun d => ((d : Nat) : Int)) (l2.map fun d => ((d : Nat) : Int)) w h1 h2).mono ?_
  rintro e w' ⟨rfl, rfl⟩
  exact ⟨by rw [bytesOf_eq hl1 hl2], rfl⟩
set_option maxHeartbeats 4000000 in
set_option maxRecDepth 100000 in
theorem awake_any (w : World) : Calls Try.prog 9 #[] w (RetB (.bool true) w) := by
  obtain ⟨N, hN⟩ : ∃ N, N = 4886718345 := ⟨_, rfl⟩
  have hc := parse_any awS w (by decide)
  rw [aw_rd, ← hN] at hc
  have HC := hid hc
  clear hc
  have HN := hid hN
  have h64 : nw N ≤ 64 := by rw [hN]; decide
  clear hN
  unfold awS at HC
  go_enter Try.func9, Try.ntmps9
  go_wp2_with fail
  refine HC.out.mono ?_
  clear HC
  rintro e V1 ⟨v, rfl, hv, WW⟩
  obtain ⟨D1, d1, rfl, O1⟩ := hv
  replace O1 : Own V1 w.heap.size D1 (nw N) d1 N := O1
  go_wp2_with fail
  obtain ⟨b0, bw⟩ := boxes1 V1 (.slice D1 (nw N) d1)
  have XN := VB.mk (B := w.heap.size) (a := N) b0 (.inr O1) bw WW.size WW.size
  replace WW := WW.trans (bw.mono WW.size)
  clear bw b0 O1
  generalize hV : V1.alloc (.cells #[.slice D1 (nw N) d1] 24) = V2 at XN WW ⊢
  clear hV
  have hc := bytes_any D1 (nw N) d1 N 6 V2 XN.num (by omega) (by decide) (by decide)
  rw [HN.out, aw_bytes, ← HN.out] at hc
  refine hc.mono ?_
  clear hc
  rintro e V3 ⟨v2, rfl, OB2, hb⟩
  replace XN := XN.below hb
  replace OB2 := OB2.weak (b := w.heap.size) WW.size
  replace WW := WW.trans (hb.mono WW.size)
  obtain ⟨A2, c2, rfl⟩ := OB2.slc
  have kXN := XN.cell
  have zXN := XN.lt
  have HO := hid OB2
  clear hb OB2
  go_wp2_with fail
  have hc := hex_any D1 (nw N) d1 N V3 XN.num (by omega)
  rw [HN.out, aw_hex, ← HN.out] at hc
  refine hc.mono ?_
  clear hc kXN zXN
  rintro e V4 ⟨rfl, hb⟩
  have HO4 := hid (HO.out.below hb (Nat.le_refl _))
  replace WW := WW.trans (hb.mono WW.size)
  clear hb HO XN
  have g1 := Blk.new V4 5 #[.int .u8 0, .int .u8 1, .int .u8 35, .int .u8 69, .int .u8 103, .int .u8 137]
  have hs1 := (HO4.out.alloc (.cells #[.int .u8 0, .int .u8 1, .int .u8 35, .int .u8 69, .int .u8 103, .int .u8 137] 5)).str
  have hs2 := Blk.str (l := [0, 1, 35, 69, 103, 137]) (n := 6) (c := 6) g1 rfl
  have W5 := WW.alloc WW.size (.cells #[.int .u8 0, .int .u8 1, .int .u8 35, .int .u8 69, .int .u8 103, .int .u8 137] 5)
  have HC := hid (equal_any hs1 hs2 (by decide) (by decide))
  clear hs1 hs2 g1 WW
  go_wp2_with fail
  refine HC.out.mono ?_
  clear HC
  rintro e w' ⟨rfl, rfl⟩
  go_wp2_with fail
  exact bodyPost_ret (v := .bool true) (by simp [results, Try.results9, go_sem]) rfl ⟨rfl, W5⟩
end Go.Proofs.Ytohiimpjcgcaiaa
