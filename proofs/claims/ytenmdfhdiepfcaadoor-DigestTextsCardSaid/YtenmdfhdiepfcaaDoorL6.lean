/- slices.Chunk of bytes, 64 and 4 at a time. -/
import Derived.Test.YtenmdfhdiepfcaaDoorL5
set_option linter.unusedVariables false
set_option linter.unusedSimpArgs false
namespace Go.Proofs.YtenmdfhdiepfcaaDoor
open Go Go.RowKit
attribute [local go_sem] Oper.semAt_some
/-- The number of a piece, if there is one. -/
def cl (q x : Nat) : Nat := min x (q - 1)
theorem cl_eq {q x : Nat} (h : x < q) : cl q x = x := by unfold cl; omega
theorem cl_lt {q x y : Nat} (h : y < q) : cl q x < q := by unfold cl; omega

theorem chunk_any64 (A : Option Addr) (n c : Nat) (w : World) :
    Calls Tryd.prog 32 #[.slice A n c, .int .i64 64] w fun e w' => e = .returned (.func (.func 55) #[] #[.pointer (some ⟨w.heap.size, 0, none⟩), .pointer (some ⟨w.heap.size + 1, 0, none⟩)]) ∧ w' = (w.alloc (.cells #[.slice A n c] 22)).alloc (.cells #[.int .i64 64] 3) := by
  go_enter Tryd.func32, Tryd.ntmps32
  go_wp2_with fail
  go_ret
  exact ⟨rfl, rfl⟩

/-- How many pieces there are, and how long piece x is. -/
def chN64 (n : Nat) : Nat := (n + 63) / 64
def chL64 (n x : Nat) : Nat := min 64 (n - 64 * x)
theorem upto_succ (k : Nat) : List.range (k + 1) = List.range k ++ [k] := List.range_succ
/-- What a round must keep: the two variables of slices.Chunk's own. -/
def Kp2 (s t : Nat) (w w' : World) : Prop := w'.heap[s]? = w.heap[s]? ∧ w'.heap[t]? = w.heap[t]?
theorem Kp2.trans {s t : Nat} {A B C : World} (h : Kp2 s t A B) (k : Kp2 s t B C) : Kp2 s t A C := ⟨k.1.trans h.1, k.2.trans h.2⟩
theorem Kp2.refl {s t : Nat} (A : World) : Kp2 s t A A := ⟨rfl, rfl⟩
theorem Kp2.drewN {s t : Nat} {A B : World} (h : Kp2 s t A B) (k : Nat) : Kp2 s t A (B.drewN k) := h
theorem Kp2.putObj {s t : Nat} (W : World) {l : Nat} (o : Obj) (h1 : s < l) (h2 : t < l) : Kp2 s t W (W.putObj l o) :=
  ⟨World.putObj_heap_other (by omega), World.putObj_heap_other (by omega)⟩
theorem grown_drewN (w : World) (k : Nat) : w.grownBy (w.drewN k) none := ⟨rfl, rfl, rfl, Nat.le_refl _, fun _ _ _ => rfl⟩

set_option maxRecDepth 100000 in
set_option maxHeartbeats 2000000 in
theorem chunk1_in64 (nn l Bs Bn : Nat) (ad : Addr) (A : Option Addr) (n q c : Nat) (hq : n = 64 * q) (hn : n ≤ 9223372036854775000) (hc : n ≤ c) (hcm : c ≤ 9223372036854775807) (hA : 0 < n → A = some ad) (J Jx : List Nat → World → Prop) (W : World)
    (hY : ∀ pre (x : Nat) W, J pre W → pre.length < q → YieldAt Fence.wide (nn - 1) Tryd.prog l #[.slice (some (ad.add (64 * cl q x))) 64 64] W fun e W' =>
      (e = .returned (.bool true) ∧ J (pre ++ [x]) W' ∧ Kp2 Bs Bn W W') ∨ (e = .returned (.bool false) ∧ Jx (pre ++ [x]) W'))
    (hD : ∀ pre W m, J pre W → J pre (W.drewN m))
    (hs : W.cell? ⟨Bs, 0, none⟩ = some (.slice A n c)) (hb : W.cell? ⟨Bn, 0, none⟩ = some (.int .i64 64)) (h0 : J [] W) :
    CallsIn Fence.wide nn Tryd.prog 55 #[.func (.yield l) #[] #[], .pointer (some ⟨Bs, 0, none⟩), .pointer (some ⟨Bn, 0, none⟩)] W fun e W' => (∃ v, e = .returned v) ∧
      ((∃ ys, ys = List.range q ∧ J ys W') ∨ (∃ pre, (∃ k, k ≤ q ∧ pre = List.range k) ∧ Jx pre W')) := by
  refine callsIn_of_wp Tryd.func55 rfl trivial ?_ rfl
  simp only [Tryd.ntmps55, List.size_toArray, List.length_cons, List.length_nil, Nat.reduceAdd, Nat.reduceSub, Array.replicate_succ, Array.replicate_zero, List.push_toArray, List.append_toArray, List.nil_append, List.cons_append]
  have HA := hid hA
  have HQ := hid hq
  clear hA hq
  gi_wp2
  gi_loopw [4] (fun i wr => ∃ k : Nat, k ≤ q ∧ i = .int .i64 ((64 * k : Nat) : Int) ∧ J (List.range k) wr ∧ Kp2 Bs Bn W wr)
    (fun i _ => n - (intOf i).toNat)
  case atStart => exact ⟨0, Nat.zero_le _, by go_num, h0, Kp2.refl _⟩
  case round =>
    obtain ⟨k, hk, rfl, hJs, hnx⟩ := hrel
    have hcs := (World.cell?_of_block (a := ⟨Bs, 0, none⟩) hnx.1).trans hs
    have hcn := (World.cell?_of_block (a := ⟨Bn, 0, none⟩) hnx.2).trans hb
    have HK := hid hnx
    clear hnx
    by_cases hlt : k < q
    · have hlt2 : 64 * k < n := by have := HQ.out; omega
      have hlt3 : 64 * k + 64 ≤ n := by have := HQ.out; omega
      obtain rfl := HA.out (by omega)
      have hAd : (if (64 * k : Nat) = c then ad else ad.add (64 * k)) = ad.add (64 * k) := if_neg (by omega)
      have hmin : (64 : Int) ≤ ((n - 64 * k : Nat) : Int) := by omega
      gi_wp2
      refine wpIn_wide.2 ?_
      go_quiet (fail)
      have hJd := hD _ _ nq hJs
      obtain ⟨fn, tmps, assign, body, hy, hR⟩ := hY (List.range k) k (wr.drewN nq) hJd (by simpa using hlt)
      rw [cl_eq hlt] at hy
      have hAe : ((64 : Int) * ((k : Nat) : Int) + 64).toNat - 64 * k = 64 := by omega
      gi_wp2
      refine ⟨fun h => by simp [Fence.wide] at h, hR.mono ?_⟩
      rintro e W3 (⟨rfl, hJ3, hk3⟩ | ⟨rfl, hJx3⟩)
      · have hcn3 := (World.cell?_of_block (a := ⟨Bn, 0, none⟩) hk3.2).trans hcn
        have HK3 := hid hk3
        clear hk3
        gi_wp2
        go_roundw
        case rel => exact ⟨k + 1, by omega, by go_num, by rw [upto_succ]; exact hJ3, (HK.out.drewN nq).trans HK3.out⟩
        case measure => simp [intOf]; omega
      · gi_wp2
        refine bodyPost_ret (results_none rfl _ _ _) rfl ?_
        exact ⟨⟨_, rfl⟩, .inr ⟨_, ⟨k + 1, by omega, (upto_succ _).symm⟩, hJx3⟩⟩
    · have hkN : k = q := by omega
      have hge : ¬ (64 * ((k : Nat) : Int) < ((n : Nat) : Int)) := by have := HQ.out; omega
      have HKN := hid hkN
      clear hkN
      gi_wp2
      go_end0
      exact ⟨⟨_, rfl⟩, .inl (by rw [← HKN.out]; exact hJs)⟩
theorem chunk_stops64 (nn Bs Bn : Nat) (A : Option Addr) (ad : Addr) (n q c : Nat) (hq : n = 64 * q) (hn : n ≤ 9223372036854775000) (hc : n ≤ c) (hcm : c ≤ 9223372036854775807) (hA : 0 < n → A = some ad) (w : World) (h1 : Bs < w.heap.size) (h2 : Bn < w.heap.size)
    (hs : w.cell? ⟨Bs, 0, none⟩ = some (.slice A n c)) (hb : w.cell? ⟨Bn, 0, none⟩ = some (.int .i64 64)) :
    SeqStopsK Fence.wide nn Tryd.prog 55 #[.pointer (some ⟨Bs, 0, none⟩), .pointer (some ⟨Bn, 0, none⟩)] (fun x : Nat => #[.slice (some (ad.add (64 * cl q x))) 64 64]) (Kp2 Bs Bn) (fun ys => ys = List.range q) (fun pre => ∃ k, k ≤ q ∧ pre = List.range k) q w :=
  fun l J Jx W hW hJ hJx hY h0 =>
    chunk1_in64 nn l Bs Bn ad A n q c hq hn hc hcm hA J Jx W hY (fun pre V m h => hJ pre V _ none h (grown_drewN V m) (fun r e => by cases e))
      ((hW.cell (p := ⟨Bs, 0, none⟩) h1).trans hs) ((hW.cell (p := ⟨Bn, 0, none⟩) h2).trans hb) h0
/-- Piece x. -/
def ch64 (l : List Nat) (x : Nat) : List Nat := (l.drop (64 * x)).take 64
theorem chunk_any4 (A : Option Addr) (n c : Nat) (w : World) :
    Calls Tryd.prog 32 #[.slice A n c, .int .i64 4] w fun e w' => e = .returned (.func (.func 55) #[] #[.pointer (some ⟨w.heap.size, 0, none⟩), .pointer (some ⟨w.heap.size + 1, 0, none⟩)]) ∧ w' = (w.alloc (.cells #[.slice A n c] 22)).alloc (.cells #[.int .i64 4] 3) := by
  go_enter Tryd.func32, Tryd.ntmps32
  go_wp2_with fail
  go_ret
  exact ⟨rfl, rfl⟩

/-- How many pieces there are, and how long piece x is. -/
def chN4 (n : Nat) : Nat := (n + 3) / 4
def chL4 (n x : Nat) : Nat := min 4 (n - 4 * x)
set_option maxRecDepth 100000 in
set_option maxHeartbeats 2000000 in
theorem chunk1_in4 (nn l Bs Bn : Nat) (ad : Addr) (A : Option Addr) (n q c : Nat) (hq : n = 4 * q) (hn : n ≤ 9223372036854775000) (hc : n ≤ c) (hcm : c ≤ 9223372036854775807) (hA : 0 < n → A = some ad) (J Jx : List Nat → World → Prop) (W : World)
    (hY : ∀ pre (x : Nat) W, J pre W → pre.length < q → YieldAt Fence.wide (nn - 1) Tryd.prog l #[.slice (some (ad.add (4 * cl q x))) 4 4] W fun e W' =>
      (e = .returned (.bool true) ∧ J (pre ++ [x]) W' ∧ Kp2 Bs Bn W W') ∨ (e = .returned (.bool false) ∧ Jx (pre ++ [x]) W'))
    (hD : ∀ pre W m, J pre W → J pre (W.drewN m))
    (hs : W.cell? ⟨Bs, 0, none⟩ = some (.slice A n c)) (hb : W.cell? ⟨Bn, 0, none⟩ = some (.int .i64 4)) (h0 : J [] W) :
    CallsIn Fence.wide nn Tryd.prog 55 #[.func (.yield l) #[] #[], .pointer (some ⟨Bs, 0, none⟩), .pointer (some ⟨Bn, 0, none⟩)] W fun e W' => (∃ v, e = .returned v) ∧
      ((∃ ys, ys = List.range q ∧ J ys W') ∨ (∃ pre, (∃ k, k ≤ q ∧ pre = List.range k) ∧ Jx pre W')) := by
  refine callsIn_of_wp Tryd.func55 rfl trivial ?_ rfl
  simp only [Tryd.ntmps55, List.size_toArray, List.length_cons, List.length_nil, Nat.reduceAdd, Nat.reduceSub, Array.replicate_succ, Array.replicate_zero, List.push_toArray, List.append_toArray, List.nil_append, List.cons_append]
  have HA := hid hA
  have HQ := hid hq
  clear hA hq
  gi_wp2
  gi_loopw [4] (fun i wr => ∃ k : Nat, k ≤ q ∧ i = .int .i64 ((4 * k : Nat) : Int) ∧ J (List.range k) wr ∧ Kp2 Bs Bn W wr)
    (fun i _ => n - (intOf i).toNat)
  case atStart => exact ⟨0, Nat.zero_le _, by go_num, h0, Kp2.refl _⟩
  case round =>
    obtain ⟨k, hk, rfl, hJs, hnx⟩ := hrel
    have hcs := (World.cell?_of_block (a := ⟨Bs, 0, none⟩) hnx.1).trans hs
    have hcn := (World.cell?_of_block (a := ⟨Bn, 0, none⟩) hnx.2).trans hb
    have HK := hid hnx
    clear hnx
    by_cases hlt : k < q
    · have hlt2 : 4 * k < n := by have := HQ.out; omega
      have hlt3 : 4 * k + 4 ≤ n := by have := HQ.out; omega
      obtain rfl := HA.out (by omega)
      have hAd : (if (4 * k : Nat) = c then ad else ad.add (4 * k)) = ad.add (4 * k) := if_neg (by omega)
      have hmin : (4 : Int) ≤ ((n - 4 * k : Nat) : Int) := by omega
      gi_wp2
      refine wpIn_wide.2 ?_
      go_quiet (fail)
      have hJd := hD _ _ nq hJs
      obtain ⟨fn, tmps, assign, body, hy, hR⟩ := hY (List.range k) k (wr.drewN nq) hJd (by simpa using hlt)
      rw [cl_eq hlt] at hy
      have hAe : ((4 : Int) * ((k : Nat) : Int) + 4).toNat - 4 * k = 4 := by omega
      gi_wp2
      refine ⟨fun h => by simp [Fence.wide] at h, hR.mono ?_⟩
      rintro e W3 (⟨rfl, hJ3, hk3⟩ | ⟨rfl, hJx3⟩)
      · have hcn3 := (World.cell?_of_block (a := ⟨Bn, 0, none⟩) hk3.2).trans hcn
        have HK3 := hid hk3
        clear hk3
        gi_wp2
        go_roundw
        case rel => exact ⟨k + 1, by omega, by go_num, by rw [upto_succ]; exact hJ3, (HK.out.drewN nq).trans HK3.out⟩
        case measure => simp [intOf]; omega
      · gi_wp2
        refine bodyPost_ret (results_none rfl _ _ _) rfl ?_
        exact ⟨⟨_, rfl⟩, .inr ⟨_, ⟨k + 1, by omega, (upto_succ _).symm⟩, hJx3⟩⟩
    · have hkN : k = q := by omega
      have hge : ¬ (4 * ((k : Nat) : Int) < ((n : Nat) : Int)) := by have := HQ.out; omega
      have HKN := hid hkN
      clear hkN
      gi_wp2
      go_end0
      exact ⟨⟨_, rfl⟩, .inl (by rw [← HKN.out]; exact hJs)⟩
theorem chunk_stops4 (nn Bs Bn : Nat) (A : Option Addr) (ad : Addr) (n q c : Nat) (hq : n = 4 * q) (hn : n ≤ 9223372036854775000) (hc : n ≤ c) (hcm : c ≤ 9223372036854775807) (hA : 0 < n → A = some ad) (w : World) (h1 : Bs < w.heap.size) (h2 : Bn < w.heap.size)
    (hs : w.cell? ⟨Bs, 0, none⟩ = some (.slice A n c)) (hb : w.cell? ⟨Bn, 0, none⟩ = some (.int .i64 4)) :
    SeqStopsK Fence.wide nn Tryd.prog 55 #[.pointer (some ⟨Bs, 0, none⟩), .pointer (some ⟨Bn, 0, none⟩)] (fun x : Nat => #[.slice (some (ad.add (4 * cl q x))) 4 4]) (Kp2 Bs Bn) (fun ys => ys = List.range q) (fun pre => ∃ k, k ≤ q ∧ pre = List.range k) q w :=
  fun l J Jx W hW hJ hJx hY h0 =>
    chunk1_in4 nn l Bs Bn ad A n q c hq hn hc hcm hA J Jx W hY (fun pre V m h => hJ pre V _ none h (grown_drewN V m) (fun r e => by cases e))
      ((hW.cell (p := ⟨Bs, 0, none⟩) h1).trans hs) ((hW.cell (p := ⟨Bn, 0, none⟩) h2).trans hb) h0
/-- Piece x. -/
def ch4 (l : List Nat) (x : Nat) : List Nat := (l.drop (4 * x)).take 4
theorem add_add (ad : Addr) (p q : Nat) : (ad.add p).add q = ad.add (p + q) := by
  unfold Addr.add
  by_cases hp : p = 0
  · subst hp; simp
  · by_cases hq : q = 0
    · subst hq; simp [hp]
    · simp [hp, hq, Nat.add_assoc]
theorem BN.piece64 {w : World} {B : Nat} {ad : Addr} {l : List Nat} (h : BN w B (some ad) l) (x : Nat) : BN w B (some (ad.add (64 * x))) (ch64 l x) := by
  intro i hi
  have hi1 : i < (l.drop (64 * x)).length := by unfold ch64 at hi; simp at hi ⊢; omega
  have hi2 : 64 * x + i < l.length := by simp at hi1; omega
  obtain ⟨ad', e, h1, h2, h3⟩ := h (64 * x + i) hi2
  injection e with e
  subst e
  have e2 : (ch64 l x)[i] = l[64 * x + i] := by simp [ch64]
  refine ⟨_, rfl, by rw [block_of_add]; exact h1, ?_, by rw [e2]; exact h3⟩
  rw [add_add, e2]
  exact h2
theorem BN.piece4 {w : World} {B : Nat} {ad : Addr} {l : List Nat} (h : BN w B (some ad) l) (x : Nat) : BN w B (some (ad.add (4 * x))) (ch4 l x) := by
  intro i hi
  have hi1 : i < (l.drop (4 * x)).length := by unfold ch4 at hi; simp at hi ⊢; omega
  have hi2 : 4 * x + i < l.length := by simp at hi1; omega
  obtain ⟨ad', e, h1, h2, h3⟩ := h (4 * x + i) hi2
  injection e with e
  subst e
  have e2 : (ch4 l x)[i] = l[4 * x + i] := by simp [ch4]
  refine ⟨_, rfl, by rw [block_of_add]; exact h1, ?_, by rw [e2]; exact h3⟩
  rw [add_add, e2]
  exact h2
end Go.Proofs.YtenmdfhdiepfcaaDoor
