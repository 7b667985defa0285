/- NatformDigits: the walk. -/
import Derived.Test.YtohiimpjcgcaiaaCanon
set_option linter.unusedVariables false
set_option linter.unusedSimpArgs false
namespace Go.Proofs.Ytohiimpjcgcaiaa
open Go.RowKit

def strSz : Value → Nat
  | .string s => s.size
  | _ => 0
theorem strN_at {l : List Nat} {i : Nat} (h : i < (strN l).size) (hl : ∀ x ∈ l, x ≤ 255) : l[i]? = some ((strN l)[i]'h).toNat := by
  have h2 := strL_at (strN l) h
  have h3 : (strL (strN l))[i]? = some ((strN l)[i]'h).toNat := by rw [List.getElem?_eq_getElem (by rw [strL_len]; exact h), h2]
  rw [strL_strN hl] at h3
  exact h3
theorem strN_tail (x : Nat) (l : List Nat) : (strN (x :: l)).extract 1 (strN (x :: l)).size = strN l := by
  have hz : (strN (x :: l)).size = l.length + 1 := by rw [strN_size]; rfl
  rw [hz]
  unfold strN strOfNums
  rw [ByteArray.extract_mk]
  congr 1
  apply Array.ext'
  simp
  exact List.take_of_length_le (by simp)
theorem textN_head {a : Nat} (h : ¬ a = 0) : (textN 16 a)[0]? ≠ some 48 := by
  have h0 := ndg_pos (b := 16) (by decide) h
  have e : (textN 16 a)[0]? = some (sym (a / 16 ^ (ndg 16 a - 1) % 16)) := by
    unfold textN
    rw [if_neg h, List.getElem?_map, List.getElem?_reverse (by rw [dgs_len]; exact h0), dgs_len, Nat.sub_zero, List.getElem?_eq_getElem (by rw [dgs_len]; omega), dgs_at]; rfl
  rw [e]
  intro h1
  injection h1 with h1
  exact sym_zero (Nat.mod_lt _ (by decide)) (top_dig (by decide) h) h1
theorem slice_sym (y : Nat) (hy : y ≤ 15) (w : World) : (Instr.slice 9 (.string { data := #[48, 49, 50, 51, 52, 53, 54, 55, 56, 57, 97, 98, 99, 100, 101, 102] }) (some (.int .u8 ((y : Nat) : Int))) (some (.int .u8 (((y : Nat) : Int) + 1))) none).run Try.prog w = .ok (.string (strN [sym y])) w := by
  rw [run_slice_string w 9 _ .u8 .u8 _ _ Try.underlying9 (by omega) (by omega) (by show (y : Int) + 1 ≤ 16; omega)]
  obtain rfl | rfl | rfl | rfl | rfl | rfl | rfl | rfl | rfl | rfl | rfl | rfl | rfl | rfl | rfl | rfl : y = 0 ∨ y = 1 ∨ y = 2 ∨ y = 3 ∨ y = 4 ∨ y = 5 ∨ y = 6 ∨ y = 7 ∨ y = 8 ∨ y = 9 ∨ y = 10 ∨ y = 11 ∨ y = 12 ∨ y = 13 ∨ y = 14 ∨ y = 15 := by omega
  all_goals rfl
theorem and15 (x : Nat) (h : x ≤ 255) : bits BinOp.and IntKind.u8 ((x : Nat) : Int) 15 = ((x % 16 : Nat) : Int) := by
  have H : ∀ x : Fin 256, bits BinOp.and IntKind.u8 ((x.1 : Nat) : Int) 15 = ((x.1 % 16 : Nat) : Int) := by decide +kernel
  exact H ⟨x, by omega⟩
/-- Two characters for each byte. -/
def hxL (l : List Nat) : List Nat := l.flatMap fun x => [sym (x / 16), sym (x % 16)]
theorem hxL_len (l : List Nat) : (hxL l).length = 2 * l.length := by
  induction l with
  | nil => rfl
  | cons x l ih => rw [List.length_cons]; show ([sym (x / 16), sym (x % 16)] ++ hxL l).length = _; rw [List.length_append, ih]; simp; omega
theorem hxL_app (l : List Nat) (x : Nat) : hxL (l ++ [x]) = hxL l ++ [sym (x / 16), sym (x % 16)] := by unfold hxL; rw [List.flatMap_append]; simp
theorem hxL_cons (l : List Nat) (x : Nat) : hxL (x :: l) = sym (x / 16) :: sym (x % 16) :: hxL l := rfl
theorem hxL_dgs (a : Nat) : ∀ k, hxL (dgs 256 a k).reverse = (dgs 16 a (2 * k)).reverse.map sym
  | 0 => rfl
  | k + 1 => by
    have e1 : a / 16 ^ (2 * k) % 16 = a / 256 ^ k % 256 % 16 := by rw [Nat.pow_mul, show (16 : Nat) ^ 2 = 256 from rfl]; omega
    have e2 : a / 16 ^ (2 * k + 1) % 16 = a / 256 ^ k % 256 / 16 := by rw [Nat.pow_succ, Nat.pow_mul, show (16 : Nat) ^ 2 = 256 from rfl, ← Nat.div_div_eq_div_mul]; omega
    rw [dgs_succ, List.reverse_append, List.reverse_singleton, List.singleton_append, hxL_cons, hxL_dgs a k, show 2 * (k + 1) = (2 * k + 1) + 1 from by omega, dgs_rev, dgs_rev, e1, e2]
theorem hxL_bytes {a : Nat} (h : ¬ a = 0) : hxL (bytesL (4 * nw a) a) = List.replicate (8 * nw a - ndg 16 a) 48 ++ textN 16 a := by
  rw [← bytesL_eq ndg256, hxL_dgs]
  have hle : ndg 16 a ≤ 8 * nw a := by
    refine ndg_le (by decide) ?_
    have h := lt_nw a
    have e : 2 ^ (32 * nw a) = 16 ^ (8 * nw a) := by rw [show (16 : Nat) = 2 ^ 4 from rfl, ← Nat.pow_mul]; congr 1; omega
    rw [← e]; exact h
  have e : 2 * (4 * nw a) = ndg 16 a + (8 * nw a - ndg 16 a) := by omega
  rw [e, dgs_more (ndg_top (by decide)).1 (by decide), List.reverse_append, List.reverse_replicate, List.map_append, List.map_replicate]
  unfold textN
  rw [if_neg h]
  rfl
set_option maxHeartbeats 4000000 in
set_option maxRecDepth 100000 in
theorem natformDigits_walk (A : Option Addr) (n c a : Nat) (w : World) (hA : Num w w.heap.size A n a) (hn : n ≤ 9223372036854775807) :
    Calls Try.prog 8 #[.agg #[.slice A n c]] w (RetB (.bool true) w) := by
  obtain ⟨b0, bw⟩ := boxes1 w (.slice A n c)
  have XN := VB.mk (B := w.heap.size) (a := a) b0 (.inl hA) bw (Nat.le_refl _) (by omega)
  have WW := bw
  clear bw b0
  go_enter Try.func8, Try.ntmps8
  go_wp2_with fail
  generalize hV : (w.alloc (.cells #[.slice A n c] 24)) = V0 at XN WW ⊢
  clear hV
  have hbs : w.heap.size ≤ V0.heap.size := WW.size
  have hc := awake_any V0
  refine hc.mono ?_
  clear hc
  rintro e V1 ⟨rfl, hb⟩
  replace XN := XN.below hb
  replace WW := WW.trans (hb.mono WW.size)
  have kXN := XN.cell
  have zXN := XN.lt
  clear hb hbs
  go_wp2_with fail
  by_cases h : 100 < n
  · have hbs : w.heap.size ≤ V1.heap.size := WW.size
    have hc := great1_any A n c V1 (by omega)
    rw [decide_eq_true h] at hc
    refine hc.mono ?_
    clear hc
    rintro e V2 ⟨rfl, hb⟩
    clear kXN zXN
    replace XN := XN.below hb
    replace WW := WW.trans (hb.mono WW.size)
    have kXN := XN.cell
    have zXN := XN.lt
    clear hb hbs
    go_wp2_with fail
    go_ret
    exact ⟨rfl, WW⟩
  · have hbs : w.heap.size ≤ V1.heap.size := WW.size
    have hc := great1_any A n c V1 (by omega)
    rw [decide_eq_false h] at hc
    refine hc.mono ?_
    clear hc
    rintro e V2 ⟨rfl, hb⟩
    clear kXN zXN
    replace XN := XN.below hb
    replace WW := WW.trans (hb.mono WW.size)
    have kXN := XN.cell
    have zXN := XN.lt
    clear hb hbs
    go_wp2_with fail
    cases hok : okB n a
    · have hbs : w.heap.size ≤ V2.heap.size := WW.size
      have hc := rvalid_any A n c a V2.heap.size V2 XN.num (Nat.le_refl _) (by omega)
      rw [hok] at hc
      refine hc.mono ?_
      clear hc
      rintro e V3 ⟨rfl, hb⟩
      clear kXN zXN
      replace XN := XN.below hb
      replace WW := WW.trans (hb.mono WW.size)
      have kXN := XN.cell
      have zXN := XN.lt
      clear hb hbs
      go_wp2_with fail
      go_ret
      exact ⟨rfl, WW⟩
    · have hbs : w.heap.size ≤ V2.heap.size := WW.size
      have hc := rvalid_any A n c a V2.heap.size V2 XN.num (Nat.le_refl _) (by omega)
      rw [hok] at hc
      refine hc.mono ?_
      clear hc
      rintro e V3 ⟨rfl, hb⟩
      clear kXN zXN
      replace XN := XN.below hb
      replace WW := WW.trans (hb.mono WW.size)
      have kXN := XN.cell
      have zXN := XN.lt
      clear hb hbs
      obtain ⟨hnw, h64⟩ := okB_yes.1 hok
      have HNW := hid hnw
      obtain ⟨T, hT⟩ : ∃ T, T = strN (textN 16 a) := ⟨_, rfl⟩
      have HT := hid hT
      have HT2 : Hid (strN (textS 16 n a) = T) := (show _ = _ by unfold textS; rw [if_pos hok, hT])
      obtain ⟨R, hR⟩ : ∃ R, R = bytesL (4 * n) a := ⟨_, rfl⟩
      have HBS : Hid (bytesS n a (4 * ((n : Nat) : Int)) = (R, 0)) := (show _ = _ by have h := bts_ok (a := a) (m := 0) (by omega) (by decide); rw [hnw] at h; simpa [hR] using h)
      have HRL : Hid (R.length = 4 * n) := (show _ = _ by rw [hR, bytesL_len]; have := ndg256 (a := a); omega)
      have HRD := hid hR
      have HBN : Hid (∀ x ∈ R, x ≤ 255) := (show ∀ x ∈ R, x ≤ 255 by rw [hR]; exact fun x hx => bytesL_le hx)
      clear hR hnw hok hT
      go_wp2_with fail
      have hbs : w.heap.size ≤ V3.heap.size := WW.size
      have hc := bytes_any A n c a (4 * ((n : Nat) : Int)) V3 XN.num (by omega) (by omega) (by omega)
      rw [HBS.out] at hc
      refine hc.mono ?_
      clear hc
      rintro e V4 ⟨v, rfl, hv, hb⟩
      clear kXN zXN
      replace XN := XN.below hb
      replace WW := WW.trans (hb.mono WW.size)
      have O1 := hv.weak (b := w.heap.size) hbs
      clear hv
      obtain ⟨D1, d1, rfl⟩ := O1.slc
      have kXN := XN.cell
      have zXN := XN.lt
      clear hb hbs
      go_wp2_with fail
      obtain ⟨rn, hrn⟩ : ∃ rn, rn = R.length := ⟨_, rfl⟩
      have HRN := hid hrn
      have hrb : rn ≤ 400 := by rw [hrn, HRL.out]; omega
      rw [← hrn] at O1 ⊢
      clear hrn
      go_loopw [5, 30] (fun s i wr => ∃ k : Nat, k ≤ rn ∧ i = .int .i64 ((k : Nat) : Int) ∧ s = .string (strN (hxL (R.take k))) ∧ Below w.heap.size w wr ∧ VB w.heap.size wr w.heap.size A n c a ∧ OB wr w.heap.size (.slice D1 rn d1) R) (fun _ i wr => rn - (intOf i).toNat)
      case atStart => exact ⟨0, Nat.zero_le _, by go_num, rfl, WW, XN, O1⟩
      case round =>
        clear WW XN O1 kXN zXN
        obtain ⟨k, hk, rfl, rfl, WW, XN, O1⟩ := hrel
        by_cases hkr : k < rn
        · have hkl : k < R.length := by rw [← HRN.out]; exact hkr
          obtain ⟨gd, rfl, h1, hcell, hfz⟩ := O1.cell hkl
          unfold byt at hcell
          obtain ⟨x, hx0⟩ : ∃ x, x = R[k] := ⟨_, rfl⟩
          rw [← hx0] at hcell
          have hxb : x ≤ 255 := by rw [hx0]; exact HBN.out _ (List.getElem_mem hkl)
          have HX := hid hx0
          clear hx0
          have l3 : decide (((k : Nat) : Int) < ((rn : Nat) : Int)) = true := by simpa using hkr
          obtain ⟨p, hp0⟩ : ∃ p, p = x / 16 := ⟨_, rfl⟩
          obtain ⟨q, hq0⟩ : ∃ q, q = x % 16 := ⟨_, rfl⟩
          have hpb : p ≤ 15 := by omega
          have hqb : q ≤ 15 := by omega
          have hp : ((x : Nat) : Int) / 16 = ((p : Nat) : Int) := by omega
          have hp1 : IntKind.u8.wrap (((p : Nat) : Int) + 1) = ((p + 1 : Nat) : Int) := by rw [IntKind.wrap_u8]; omega
          have hq1 : IntKind.u8.wrap (((q : Nat) : Int) + 1) = ((q + 1 : Nat) : Int) := by rw [IntKind.wrap_u8]; omega
          have HP := hid hp0
          have HQ := hid hq0
          clear hp0 hq0
          have hsl := slice_sym p hpb
          have hsl2 := slice_sym q hqb
          have hq3 : bits BinOp.and IntKind.u8 ((x : Nat) : Int) 15 = ((q : Nat) : Int) := by rw [and15 x hxb, HQ.out]
          have HS1 : Hid (strN [sym p] ++ strN [sym q] = strN [sym p, sym q]) := strN_app _ _
          have hsz1 : ¬ 9223372036854775807 < (strN [sym p]).size + (strN [sym q]).size := by rw [strN_size, strN_size]; simp
          obtain ⟨L, hL⟩ : ∃ L, L = hxL (R.take k) := ⟨_, rfl⟩
          have HLL := hid hL
          have HL3 : Hid (L.length = 2 * k) := (show _ = _ by rw [hL, hxL_len, List.length_take]; omega)
          have hsz2 : ¬ 9223372036854775807 < (strN L).size + (strN [sym p] ++ strN [sym q]).size := by rw [HS1.out, strN_size, strN_size, HL3.out]; simp; omega
          have hsz3 : ¬ 9223372036854775807 < (strN L).size + ((strN [sym p]).size + (strN [sym q]).size) := by rw [strN_size, strN_size, strN_size, HL3.out]; simp; omega
          rw [← hL]
          have HN : Hid (strN L ++ (strN [sym p] ++ strN [sym q]) = strN (hxL (R.take (k + 1)))) := (show _ = _ by rw [HS1.out, strN_app, HLL.out, List.take_succ_eq_append_getElem hkl, hxL_app, ← HX.out, HP.out, HQ.out])
          clear hL
          go_wp2_with fail
          go_quiet (fail)
          go_wp2_with fail
          go_roundw
          case rel => exact ⟨k + 1, by omega, by go_num, by rw [HN.out], below_drewN WW _, XN, O1⟩
          case measure => simp [intOf] <;> omega
        · obtain rfl : k = rn := by omega
          have l3 : decide (((k : Nat) : Int) < ((k : Nat) : Int)) = false := by simp
          have HTK : Hid (hxL (R.take k) = hxL (bytesL (4 * n) a)) := (show _ = _ by rw [HRN.out, List.take_length, HRD.out])
          rw [HTK.out]
          clear HTK HRD HRN HRL HBS hkr hk hrb
          by_cases h0 : a = 0
          · have hn0 : n = 0 := by rw [← HNW.out, h0]; rfl
            have HS0 : Hid (strN (hxL (bytesL (4 * n) a)) = { data := #[] }) := (show _ = _ by rw [hn0]; unfold bytesL; rw [h0, ndg_zero (by decide)]; rfl)
            have HTT : Hid (T = { data := #[48] }) := (show _ = _ by rw [HT.out, h0]; rfl)
            clear h0 hn0
            rw [HS0.out]
            go_wp2_with fail
            go_loopw [5] (fun s wr' => s = .string { data := #[] } ∧ wr' = wr) (fun _ _ => 0)
            case atStart => exact ⟨rfl, rfl⟩
            case round =>
              obtain ⟨rfl, rfl⟩ := hrel
              have kXN := XN.cell
              have zXN := XN.lt
              go_wp2_with fail
              have hbs : w.heap.size ≤ wr.heap.size := WW.size
              have hc := hex_any A n c a wr XN.num (by omega)
              rw [HT2.out] at hc
              rw [HTT.out] at hc
              refine hc.mono ?_
              clear hc
              rintro e V5 ⟨rfl, hb⟩
              clear kXN zXN
              replace XN := XN.below hb
              replace WW := WW.trans (hb.mono WW.size)
              have kXN := XN.cell
              have zXN := XN.lt
              clear hb hbs
              go_wp2_with fail
              go_ret
              exact ⟨rfl, WW⟩
          · obtain ⟨TL, hTL⟩ : ∃ TL, TL = textN 16 a := ⟨_, rfl⟩
            have HTL := hid hTL
            have HTS : Hid (strN TL = T) := (show _ = _ by rw [hTL, HT.out])
            obtain ⟨j0, HJ0⟩ : ∃ j, Hid (hxL (bytesL (4 * n) a) = List.replicate j 48 ++ TL) := ⟨8 * nw a - ndg 16 a, (show _ = _ by rw [hTL, ← HNW.out]; exact hxL_bytes h0)⟩
            have hj0 : j0 ≤ 100000 := by have h := congrArg List.length HJ0.out; rw [hxL_len, bytesL_len (by rw [← HNW.out]; exact ndg256), List.length_append, List.length_replicate] at h; omega
            have HTP : Hid (0 < TL.length ∧ TL.length ≤ 100000) := (show _ by rw [hTL, textN_len h0]; exact ⟨ndg_pos (by decide) h0, Nat.le_trans (ndg_bd (by decide) (by rw [HNW.out]; exact h64)) (by decide)⟩)
            have HTH : Hid (TL[0]? ≠ some 48) := (show _ by rw [hTL]; exact textN_head h0)
            clear hTL h0
            rw [HJ0.out]
            go_wp2_with fail
            go_loopw [5] (fun s wr' => ∃ j : Nat, j ≤ 100000 ∧ s = .string (strN (List.replicate j 48 ++ TL)) ∧ wr' = wr) (fun s _ => strSz s)
            case atStart => exact ⟨j0, hj0, rfl, rfl⟩
            case round =>
              obtain ⟨j, hj, rfl, rfl⟩ := hrel
              obtain ⟨S, hS⟩ : ∃ S, S = strN (List.replicate j 48 ++ TL) := ⟨_, rfl⟩
              rw [← hS]
              have HZ : Hid (S.size = j + TL.length) := (show _ = _ by rw [hS, strN_size, List.length_append, List.length_replicate])
              have hs1 : S.size ≤ 200000 := by rw [HZ.out]; have := HTP.out.2; omega
              have hs0 : 0 < S.size := by rw [HZ.out]; have := HTP.out.1; omega
              have HS := hid hS
              clear hS
              cases j with
              | zero =>
                have HST : Hid (S = T) := (show _ = _ by rw [HS.out, ← HTS.out]; rfl)
                by_cases hlen : S.size = 1
                · have l5 : decide (((S.size : Nat) : Int) > 1) = false := by rw [hlen]; rfl
                  clear hlen
                  have hne : S.toList.isEmpty = false := str_some (by omega)
                  have kXN := XN.cell
                  have zXN := XN.lt
                  go_wp2_with fail
                  have hbs : w.heap.size ≤ wr.heap.size := WW.size
                  have hc := hex_any A n c a wr XN.num (by omega)
                  rw [HT2.out] at hc
                  rw [← HST.out] at hc
                  refine hc.mono ?_
                  clear hc
                  rintro e V5 ⟨rfl, hb⟩
                  clear kXN zXN
                  replace XN := XN.below hb
                  replace WW := WW.trans (hb.mono WW.size)
                  have kXN := XN.cell
                  have zXN := XN.lt
                  clear hb hbs
                  go_wp2_with fail
                  go_ret
                  exact ⟨rfl, WW⟩
                · have l5 : decide (((S.size : Nat) : Int) > 1) = true := by simp; omega
                  obtain ⟨c0, hc0⟩ : ∃ c0, c0 = (S[0]'hs0).toNat := ⟨_, rfl⟩
                  have hc1 : (S[0]'hs0).toNat = c0 := hc0.symm
                  have hc48 : c0 ≠ 48 := fun e => HTH.out (by have h := strN_at (l := List.replicate 0 48 ++ TL) (i := 0) (by rw [← HS.out]; exact hs0) (by intro x hm; rw [HTL.out] at hm; exact textN_le (b := 16) (a := a) (by decide) (by decide) (by simpa using hm)); rw [← e, hc0]; simp only [HS.out]; simpa using h)
                  have l6 : (((c0 : Nat) : Int) == 48) = false := by simp; omega
                  clear hc0
                  have hne : S.toList.isEmpty = false := str_some (by omega)
                  have kXN := XN.cell
                  have zXN := XN.lt
                  go_wp2_with fail
                  have hbs : w.heap.size ≤ wr.heap.size := WW.size
                  have hc := hex_any A n c a wr XN.num (by omega)
                  rw [HT2.out] at hc
                  rw [← HST.out] at hc
                  refine hc.mono ?_
                  clear hc
                  rintro e V5 ⟨rfl, hb⟩
                  clear kXN zXN
                  replace XN := XN.below hb
                  replace WW := WW.trans (hb.mono WW.size)
                  have kXN := XN.cell
                  have zXN := XN.lt
                  clear hb hbs
                  go_wp2_with fail
                  go_ret
                  exact ⟨rfl, WW⟩
              | succ j =>
                have l5 : decide (((S.size : Nat) : Int) > 1) = true := by have := HTP.out.1; simp; rw [HZ.out]; omega
                have hc1 : (S[0]'hs0).toNat = 48 := by have h := strN_at (l := List.replicate (j + 1) 48 ++ TL) (i := 0) (by rw [← HS.out]; exact hs0) (by exact fun x hm => (List.mem_append.1 hm).elim (fun h => by have := List.eq_of_mem_replicate h; omega) (fun h => by rw [HTL.out] at h; exact textN_le (b := 16) (a := a) (by decide) (by decide) h)); simp only [HS.out]; simpa [List.replicate_succ] using h.symm
                have HEX : Hid (S.extract 1 S.size = strN (List.replicate j 48 ++ TL)) := (show _ = _ by rw [HS.out, List.replicate_succ, List.cons_append]; exact strN_tail _ _)
                go_wp2_with fail
                go_roundw
                case rel => exact ⟨j, by omega, by rw [HEX.out], trivial⟩
                case measure => show (S.extract 1 S.size).size < S.size; rw [HEX.out, strN_size, List.length_append, List.length_replicate, HZ.out]; omega

end Go.Proofs.Ytohiimpjcgcaiaa
