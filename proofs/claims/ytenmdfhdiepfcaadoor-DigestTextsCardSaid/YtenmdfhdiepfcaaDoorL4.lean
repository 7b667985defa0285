/- digest.withNumber, digest.padded. -/
import Derived.Test.YtenmdfhdiepfcaaDoorL3
import Derived.Laws.AppendOwnNone
import Derived.ArgAppend
set_option linter.unusedVariables false
set_option linter.unusedSimpArgs false
namespace Go.Proofs.YtenmdfhdiepfcaaDoor
open Go Go.RowKit
theorem wp_apps {ops : Array Oper} {rest : List Oper} {o : Oper} {a : Act} {Q : Exit → Act → World → Prop} (hgd : o.guard = none) (s x : Operand)
    (ho : o.op = .call { callee := .builtin .append, args := #[s, x], argTypes := #[22, 22] }) (base : Nat) (V : World) (v : Value) (l ys : List Nat) (A : Option Addr) (n c : Nat) (hs : a.eval s = v) (hO : OB V base v l)
    (hx : a.eval x = .slice A n c) (hn : ys.length = n) (hA0 : A = none → n = 0 ∧ c = 0) (hA : BN V V.heap.size A ys) (hk : l.length + n ≤ 1000000) (hb : base ≤ V.heap.size)
    (h : ∀ v' w', OB w' base v' (l ++ ys) → V.grownBy w' v.ownBlock → wpList Tryd.prog ops Q rest (a.put o.dst v') w') :
    wpList Tryd.prog ops Q (o :: rest) a V := by
  obtain ⟨i0, hi0, hz0, hz1, hz2⟩ := info_parts info5
  cases A with
  | none =>
    obtain ⟨rfl, rfl⟩ := hA0 rfl
    obtain rfl := List.length_eq_zero_iff.1 hn
    refine wpList_append_own_none hgd s x 22 ho base 5 i0 1 Tryd.underlying22 hi0 v l.length (l.map byt) hs hO hx ?_
    exact h v V (by simpa using hO) ⟨rfl, rfl, rfl, Nat.le_refl _, fun _ _ _ => rfl⟩
  | some ad =>
    refine wpList_append_own_at _ hgd s x 22 ho base 5 i0 (.int .u8 0) 1 1 Tryd.underlying22 hi0 hz0 hz1 hz2 rfl (by decide) v l.length (l.map byt) hs hO ad n c (ys.map byt) hx (by simp [hn]) ?_ (byt_one ys) (by unfold maxLen; omega) (by omega) hb ?_
    · intro j u hu
      rw [List.getElem?_map] at hu
      rcases Nat.lt_or_ge j ys.length with hj | hj
      · rw [List.getElem?_eq_getElem hj] at hu
        injection hu with hu
        subst hu
        obtain ⟨ad', e, _, hc, _⟩ := hA j hj
        injection e with e
        subst e
        exact hc
      · rw [List.getElem?_eq_none hj] at hu
        cases hu
    intro v' w' hown hg _ _
    refine h v' w' ?_ hg
    unfold OB
    rw [List.length_append, List.map_append, hn]
    exact hown
/-- A slice of bytes of somebody else's, full: what is appended goes into new memory. -/
theorem wp_appf {ops : Array Oper} {rest : List Oper} {o : Oper} {a : Act} {Q : Exit → Act → World → Prop} (hgd : o.guard = none) (s x : Operand)
    (ho : o.op = .call { callee := .builtin .append, args := #[s, x], argTypes := #[22, 22] }) (V : World) (A : Addr) (n : Nat) (l : List Nat) (y : Nat) (hs : a.eval s = .slice (some A) n n) (hn : l.length = n)
    (hA : BN V V.heap.size (some A) l) (hx : a.eval x = .slice (some ⟨V.heap.size, 0, none⟩) 1 1) (hk : n ≤ 1000000)
    (h : ∀ v' w', OB w' V.heap.size v' (l ++ [y]) → V.grownBy w' none → wpList Tryd.prog ops Q rest (a.put o.dst v') w') :
    wpList Tryd.prog ops Q (o :: rest) a (V.alloc (.cells #[.int .u8 ((y : Nat) : Int)] 5)) := by
  obtain ⟨i0, hi0, hz0, hz1, hz2⟩ := info_parts info5
  refine wpList_append_grows _ hgd s x 22 ho 5 i0 (.int .u8 0) 1 1 Tryd.underlying22 hi0 hz0 hz1 hz2 rfl (by decide) (some A) n n (l.map byt) hs (fun h => by cases h) (by simp [hn]) ?_ ⟨V.heap.size, 0, none⟩ 1 1 [byt y] hx rfl ?_ (byt_one [y]) (by omega) (by unfold maxLen; omega) (by omega) ?_
  · intro b e j u hu
    injection e with e
    subst e
    rw [List.getElem?_map] at hu
    rcases Nat.lt_or_ge j l.length with hj | hj
    · rw [List.getElem?_eq_getElem hj] at hu
      injection hu with hu
      subst hu
      obtain ⟨ad', e, hlt, hc, _⟩ := hA j hj
      injection e with e
      subst e
      exact (World.cell?_alloc_lt V _ _ (by rw [block_of_add]; exact hlt)).trans hc
    · rw [List.getElem?_eq_none hj] at hu
      cases hu
  · intro j u hu
    have hB := Blk.new V 5 #[byt y]
    cases j with
    | zero => injection hu with hu; subst hu; exact (hB.cell 0).trans rfl
    | succ j => cases hu
  intro v' w' hown hg
  refine h v' w' ?_ ?_
  · have h2 : OB w' (V.alloc (.cells #[.int .u8 ((y : Nat) : Int)] 5)).heap.size v' (l ++ [y]) := by
      unfold OB
      rw [List.length_append, List.map_append, hn]
      exact hown
    exact h2.weak (by simp)
  · exact ⟨hg.os, hg.tape, hg.output, Nat.le_trans (by simp) hg.size, fun k hk hne => (hg.block k (by simp; omega) hne).trans (Below.heap_alloc V _ k hk)⟩
theorem n8_len (n : Nat) : (n8 n).length = 8 := by simp [n8]
theorem n8_take (n : Nat) {j : Nat} (h : j < 8) : (n8 n).take j ++ [n / 2 ^ (56 - 8 * j) % 256] = (n8 n).take (j + 1) := by
  rw [List.take_add_one, n8, List.getElem?_map, List.getElem?_range h]
  rfl
set_option maxRecDepth 100000 in
set_option maxHeartbeats 4000000 in
theorem withnumber_any (base : Nat) (v : Value) (l : List Nat) (n : Nat) (w : World) (hO : OB w base v l ∨ (v.ownBlock = v.ownBlock ∧ ∃ A, v = .slice (some A) l.length l.length ∧ BN w w.heap.size (some A) l ∧ base = w.heap.size)) (hl : l.length ≤ 900000) (hn : n ≤ 9223372036854775807) (hb : base ≤ w.heap.size) :
    Calls Tryd.prog 42 #[v, .int .i64 ((n : Nat) : Int)] w (fun e w' => ∃ v', e = .returned v' ∧ OB w' base v' (l ++ n8 n) ∧ Below base w w') := by
  have HO := hid hO
  clear hO
  go_enter Tryd.func42, Tryd.ntmps42
  go_wp2_with fail
  go_loopw [0, 5] (fun v0 i wr => ∃ j : Nat, j ≤ 8 ∧ i = .int .i64 (56 - 8 * ((j : Nat) : Int)) ∧ Below base w wr ∧ (OB wr base v0 (l ++ (n8 n).take j) ∨ (j = 0 ∧ v0 = v ∧ wr = w ∧ ∃ A, v = .slice (some A) l.length l.length ∧ BN w w.heap.size (some A) l ∧ base = w.heap.size))) (fun v0 i wr => (intOf i + 8).toNat)
  case atStart => exact ⟨0, by omega, rfl, Below.refl _ _, by rcases HO.out with h | ⟨_, h⟩; exact .inl (by simpa using h); exact .inr ⟨rfl, rfl, rfl, h⟩⟩
  case round =>
    obtain ⟨j, hj, rfl, WW, OO⟩ := hrel
    by_cases hlt : j < 8
    · obtain ⟨y, hy⟩ : ∃ y, y = n / 2 ^ (56 - 8 * j) % 256 := ⟨_, rfl⟩
      have hv : ((n : Nat) : Int) / 2 ^ (56 - 8 * j) % 256 = ((y : Nat) : Int) := by rw [hy]; simp
      have HT : Hid ((n8 n).take j ++ [y] = (n8 n).take (j + 1)) := (show _ = _ by rw [hy]; exact n8_take n hlt)
      clear hy
      have hlen : (l ++ (n8 n).take j).length ≤ 900008 := by rw [List.length_append, List.length_take]; omega
      rcases OO with OO | ⟨rfl, hv0, rfl, A, hvA, hBN, rfl⟩
      · have hsz : base ≤ wr.heap.size := Nat.le_trans hb WW.size
        have HLL := hid hlen
        clear hlen
        go_wp2_with (at_builtin; refine wp_appb rfl _ _ rfl base wr u0 (l ++ (n8 n).take j) y rfl OO rfl (by have := HLL.out; omega) hsz ?_; intro v9 V9 ho hg; replace WW := OO.gbelow hg (Nat.le_refl _) hsz WW; clear OO; have OD := ho; clear ho; clear hg)
        go_roundw
        case rel => exact ⟨j + 1, by omega, by congr 1; omega, WW, .inl (by rw [← HT.out, ← List.append_assoc]; exact OD)⟩
        case measure => simp [intOf] <;> omega
      · replace hv : ((n : Nat) : Int) / 72057594037927936 = ((y : Nat) : Int) := by
          have h : ((n : Nat) : Int) / 72057594037927936 % 256 = ((y : Nat) : Int) := hv
          omega
        have HVA := hid (hv0.trans hvA)
        clear hv0 hvA
        go_wp2_with (at_builtin; refine wp_appf rfl (.tmp 10) (.tmp 15) rfl wr A l.length l y HVA.out rfl hBN rfl (by omega) ?_; intro v9 V9 ho hg; replace WW := WW.grown hg (Nat.le_refl _) (fun _ e => by cases e); have OD := ho; clear ho; clear hg)
        go_roundw
        case rel => exact ⟨1, by omega, rfl, WW, .inl (by rw [← HT.out, List.take_zero, List.nil_append]; exact OD)⟩
        case measure => simp [intOf] <;> omega
    · rw [show j = 8 from by omega] at OO
      have OD : OB wr base u0 (l ++ n8 n) := by
        rcases OO with h | ⟨h, _⟩
        · rw [List.take_of_length_le (by rw [n8_len]; exact Nat.le_refl _)] at h; exact h
        · cases h
      clear OO
      go_wp2_with fail
      go_ret
      exact ⟨_, rfl, OD, WW⟩
/-- .. of a row of the call's own. -/
theorem withnumber_own (base : Nat) (v : Value) (l : List Nat) (n : Nat) (w : World) (hO : OB w base v l) (hl : l.length ≤ 900000) (hn : n ≤ 9223372036854775807) (hb : base ≤ w.heap.size) :
    Calls Tryd.prog 42 #[v, .int .i64 ((n : Nat) : Int)] w (fun e w' => ∃ v', e = .returned v' ∧ OB w' base v' (l ++ n8 n) ∧ Below base w w') := withnumber_any base v l n w (.inl hO) hl hn hb
def lenOf : Value → Nat
  | .slice _ n _ => n
  | _ => 0
theorem zs_spec (r j : Nat) (hr : r ≤ 63) (hj : j ≤ zs r) : (r + 1 + j) % 64 = 56 ↔ j = zs r := by
  unfold zs at *
  omega
set_option maxRecDepth 100000 in
set_option maxHeartbeats 4000000 in
theorem padded_any (A : Option Addr) (c : Nat) (l : List Nat) (n m : Nat) (w : World) (hA0 : A = none → m = 0 ∧ c = 0) (hA : BN w w.heap.size A l) (hm : l.length = m) (hm2 : m ≤ 63) (hn : n ≤ 1000000) :
    Calls Tryd.prog 34 #[.slice A m c, .int .i64 ((n : Nat) : Int)] w (fun e w' => ∃ v', e = .returned v' ∧ OB w' w.heap.size v' (padL l n) ∧ Below w.heap.size w w') := by
  have HM := hid hm
  have HA := hid hA
  have HA0 := hid hA0
  clear hm hA hA0
  obtain ⟨i0, hi0, hz0, hz1, hz2⟩ := info_parts info5
  obtain ⟨V0, hmk, ho, hg⟩ := run_make_own (P := Tryd.prog) w w.heap.size 22 5 i0 (.int .u8 0) 1 Tryd.underlying22 hi0 hz0 hz1 .i64 .i64 128 (by rw [hz2]; omega) (by unfold maxLen; omega) (Nat.le_refl _)
  have OO : OB V0 w.heap.size (.slice (some ⟨w.heap.size, 0, none⟩) 0 128) [] := ho
  have WW : Below w.heap.size w V0 := (Below.refl _ _).grown hg (Nat.le_refl _) (fun _ e => by cases e)
  replace hmk : (Instr.makeSlice 22 (.int .i64 0) (.int .i64 128)).run Tryd.prog w = .ok (.slice (some ⟨w.heap.size, 0, none⟩) 0 128) V0 := hmk
  generalize Value.slice (some ⟨w.heap.size, 0, none⟩) 0 128 = v0 at hmk OO
  clear ho hg hi0 hz0 hz1 hz2 i0
  go_enter Tryd.func34, Tryd.ntmps34
  have HB1 : Hid (BN V0 V0.heap.size A l) := (show BN V0 V0.heap.size A l from fun i hi => by
    obtain ⟨ad, e, h1, h2⟩ := (HA.out.below WW) i hi
    exact ⟨ad, e, Nat.lt_of_lt_of_le h1 WW.size, h2⟩)
  go_wp2_with (at_builtin; first | (refine wp_apps rfl _ _ rfl w.heap.size V0 v0 [] l A m c rfl OO rfl HM.out HA0.out HB1.out (by show 0 + m ≤ 1000000; omega) WW.size ?_; intro v1 V1 ho hg; replace WW := OO.gbelow hg (Nat.le_refl _) WW.size WW; clear OO; have OO : OB V1 w.heap.size v1 l := ho; clear ho; clear hg) | (refine wp_appb rfl _ _ rfl w.heap.size V1 v1 l 128 rfl OO rfl (by rw [HM.out]; omega) WW.size ?_; intro v2 V2 ho hg; replace WW := OO.gbelow hg (Nat.le_refl _) WW.size WW; clear OO; have OO := ho; clear ho; clear hg))
  go_loopw [5] (fun v wr => ∃ (j : Nat) (n5 : Nat), j ≤ zs m ∧ Hid (n5 = m + 1 + j) ∧ Below w.heap.size w wr ∧ OB wr w.heap.size v (l ++ [128] ++ List.replicate j 0) ∧ ∃ A5 c5, v = .slice A5 n5 c5) (fun v wr => 200 - (lenOf v))
  case atStart => exact ⟨0, m + 1, Nat.zero_le _, rfl, WW, by simpa using OO, by obtain ⟨A5, c5, e⟩ := OO.slc; exact ⟨A5, c5, by rw [e, List.length_append, HM.out]; rfl⟩⟩
  case round =>
    clear WW OO
    obtain ⟨j, n5, hj, H5, WW, OO, A5, c5, hv5⟩ := hrel
    subst hv5
    have h5 : n5 ≤ 64 + 128 := by have := H5.out; unfold zs at hj; omega
    have hsz := WW.size
    have HLL : Hid ((l ++ [128] ++ List.replicate j 0).length ≤ 1000000) := (show (l ++ [128] ++ List.replicate j 0).length ≤ 1000000 by simp only [List.length_append, List.length_replicate, HM.out, List.length_singleton]; have := H5.out; omega)
    by_cases hlt : j < zs m
    · have ht : ¬ (((n5 : Nat) : Int) % 64 = 56) := by
        have := zs_spec m j hm2 hj
        have := H5.out
        omega
      go_wp2_with (at_builtin; refine wp_appb rfl (.tmp 16) (.tmp 17) rfl w.heap.size wr _ (l ++ [128] ++ List.replicate j 0) 0 rfl OO rfl HLL.out hsz ?_; intro v9 V9 ho hg; replace WW := OO.gbelow hg (Nat.le_refl _) hsz WW; clear OO; have OO := ho; clear ho; clear hg)
      have OO2 : OB V9 w.heap.size v9 (l ++ [128] ++ List.replicate (j + 1) 0) := by rw [List.replicate_succ', ← List.append_assoc]; exact OO
      have hl5 : (l ++ [128] ++ List.replicate (j + 1) 0).length = n5 + 1 := by have := H5.out; simp only [List.length_append, List.length_replicate, HM.out, List.length_singleton]; omega
      obtain ⟨A6, c6, e6⟩ := OO2.slc
      rw [hl5] at e6
      subst e6
      go_roundw
      case rel => exact ⟨j + 1, n5 + 1, by omega, (show _ = _ by have := H5.out; omega), WW, OO2, A6, c6, rfl⟩
      case measure => simp [lenOf]; omega
    · have ht : ((n5 : Nat) : Int) % 64 = 56 := by
        have := (zs_spec m j hm2 hj).2 (by omega)
        have := H5.out
        omega
      have hn8 : 8 * ((n : Nat) : Int) = ((8 * n : Nat) : Int) := by omega
      rw [show j = zs m from by omega] at OO HLL
      have hc := withnumber_own w.heap.size _ _ (8 * n) wr OO (by have := HLL.out; have := H5.out; simp only [List.length_append, List.length_replicate, HM.out, List.length_singleton]; unfold zs; omega) (by omega) hsz
      rw [← hn8] at hc
      have HC := hid hc
      clear hc hn8
      go_wp2_with fail
      refine HC.out.mono ?_
      rintro e w' ⟨v7, rfl, O7, hb7⟩
      go_wp2_with fail
      go_ret
      refine ⟨_, rfl, ?_, WW.trans hb7⟩
      rw [show padL l n = l ++ [128] ++ List.replicate (zs m) 0 ++ n8 (8 * n) from by unfold padL; rw [HM.out]; simp]
      exact O7
end Go.Proofs.YtenmdfhdiepfcaaDoor
