/- slices.Chunk of bytes, seven at a time. -/
import Derived.Test.YtohiimpjcgcaiaaRin
set_option linter.unusedVariables false
set_option linter.unusedSimpArgs false
namespace Go.Proofs.Ytohiimpjcgcaiaa
open Go Go.RowKit
attribute [local go_sem] Oper.semAt_some

theorem chunk_any (A : Option Addr) (n c : Nat) (w : World) :
    Calls Try.prog 40 #[.slice A n c, .int .i64 7] w fun e w' => e = .returned (.func (.func 46) #[] #[.pointer (some ⟨w.heap.size, 0, none⟩), .pointer (some ⟨w.heap.size + 1, 0, none⟩)]) ∧ w' = (w.alloc (.cells #[.slice A n c] 37)).alloc (.cells #[.int .i64 7] 3) := by
  go_enter Try.func40, Try.ntmps40
  go_wp2_with fail
  go_ret
  exact ⟨rfl, rfl⟩

/-- How many pieces there are, and how long piece x is. -/
def chN (n : Nat) : Nat := (n + 6) / 7
def chL (n x : Nat) : Nat := min 7 (n - 7 * x)
theorem upto_succ (k : Nat) : List.range (k + 1) = List.range k ++ [k] := List.range_succ
/-- What a round must keep: the two variables of slices.Chunk's own. -/
def Kp2 (s t : Nat) (w w' : World) : Prop := w'.heap[s]? = w.heap[s]? ∧ w'.heap[t]? = w.heap[t]?
theorem Kp2.trans {s t : Nat} {A B C : World} (h : Kp2 s t A B) (k : Kp2 s t B C) : Kp2 s t A C := ⟨k.1.trans h.1, k.2.trans h.2⟩
theorem Kp2.refl {s t : Nat} (A : World) : Kp2 s t A A := ⟨rfl, rfl⟩
theorem Kp2.drewN {s t : Nat} {A B : World} (h : Kp2 s t A B) (k : Nat) : Kp2 s t A (B.drewN k) := h
theorem Kp2.putObj {s t : Nat} (W : World) {l : Nat} (o : Obj) (h1 : s < l) (h2 : t < l) : Kp2 s t W (W.putObj l o) :=
  ⟨World.putObj_heap_other (by omega), World.putObj_heap_other (by omega)⟩
theorem grown_drewN (w : World) (k : Nat) : w.grownBy (w.drewN k) none := ⟨rfl, rfl, rfl, Nat.le_refl _, fun _ _ _ => rfl⟩

set_option maxRecDepth 100000 in
set_option maxHeartbeats 2000000 in
theorem chunk1_in (nn l Bs Bn : Nat) (A : Option Addr) (ad : Addr) (n c : Nat) (hn : n ≤ 9223372036854775000) (hc : n ≤ c) (hcm : c ≤ 9223372036854775807) (hA : 0 < n → A = some ad) (J Jx : List Nat → World → Prop) (W : World)
    (hY : ∀ pre (x : Nat) W, J pre W → pre.length < chN n → YieldAt Fence.wide (nn - 1) Try.prog l #[.slice (some (ad.add (7 * x))) (chL n x) (chL n x)] W fun e W' =>
      (e = .returned (.bool true) ∧ J (pre ++ [x]) W' ∧ Kp2 Bs Bn W W') ∨ (e = .returned (.bool false) ∧ Jx (pre ++ [x]) W'))
    (hD : ∀ pre W m, J pre W → J pre (W.drewN m))
    (hs : W.cell? ⟨Bs, 0, none⟩ = some (.slice A n c)) (hb : W.cell? ⟨Bn, 0, none⟩ = some (.int .i64 7)) (h0 : J [] W) :
    CallsIn Fence.wide nn Try.prog 46 #[.func (.yield l) #[] #[], .pointer (some ⟨Bs, 0, none⟩), .pointer (some ⟨Bn, 0, none⟩)] W fun e W' => (∃ v, e = .returned v) ∧
      ((∃ ys, ys = List.range (chN n) ∧ J ys W') ∨ (∃ pre, (∃ k, k ≤ chN n ∧ pre = List.range k) ∧ Jx pre W')) := by
  refine callsIn_of_wp Try.func46 rfl trivial ?_ rfl
  simp only [Try.ntmps46, List.size_toArray, List.length_cons, List.length_nil, Nat.reduceAdd, Nat.reduceSub, Array.replicate_succ, Array.replicate_zero, List.push_toArray, List.append_toArray, List.nil_append, List.cons_append]
  have HA := hid hA
  clear hA
  gi_wp2
  gi_loopw [4] (fun i wr => ∃ k : Nat, k ≤ chN n ∧ i = .int .i64 ((7 * k : Nat) : Int) ∧ J (List.range k) wr ∧ Kp2 Bs Bn W wr)
    (fun i _ => n - (intOf i).toNat)
  case atStart => exact ⟨0, Nat.zero_le _, by go_num, h0, Kp2.refl _⟩
  case round =>
    obtain ⟨k, hk, rfl, hJs, hnx⟩ := hrel
    have hcs := (World.cell?_of_block (a := ⟨Bs, 0, none⟩) hnx.1).trans hs
    have hcn := (World.cell?_of_block (a := ⟨Bn, 0, none⟩) hnx.2).trans hb
    have HK := hid hnx
    clear hnx
    by_cases hlt : 7 * k < n
    · obtain rfl := HA.out (by omega)
      have hAd : (if (7 * k : Nat) = c then ad else ad.add (7 * k)) = ad.add (7 * k) := if_neg (by omega)
      have hmin : min (7 : Int) ((n - 7 * k : Nat) : Int) = ((chL n k : Nat) : Int) := by unfold chL; omega
      have hcl : chL n k ≤ 7 := by unfold chL; omega
      have hcl2 : 7 * k + chL n k ≤ n := by unfold chL; omega
      gi_wp2
      refine wpIn_wide.2 ?_
      go_quiet (fail)
      have hJd := hD _ _ nq hJs
      obtain ⟨fn, tmps, assign, body, hy, hR⟩ := hY (List.range k) k (wr.drewN nq) hJd (by unfold chN; simp; omega)
      have hAe : ((7 : Int) * ((k : Nat) : Int) + ((chL n k : Nat) : Int)).toNat - 7 * k = chL n k := by omega
      gi_wp2
      refine ⟨fun h => by simp [Fence.wide] at h, hR.mono ?_⟩
      rintro e W3 (⟨rfl, hJ3, hk3⟩ | ⟨rfl, hJx3⟩)
      · have hcn3 := (World.cell?_of_block (a := ⟨Bn, 0, none⟩) hk3.2).trans hcn
        have HK3 := hid hk3
        clear hk3
        gi_wp2
        go_roundw
        case rel => exact ⟨k + 1, by unfold chN; omega, by go_num, by rw [upto_succ]; exact hJ3, (HK.out.drewN nq).trans HK3.out⟩
        case measure => simp [intOf]; omega
      · gi_wp2
        refine bodyPost_ret (results_none rfl _ _ _) rfl ?_
        exact ⟨⟨_, rfl⟩, .inr ⟨_, ⟨k + 1, by unfold chN; omega, (upto_succ _).symm⟩, hJx3⟩⟩
    · have hkN : k = chN n := by unfold chN at hk ⊢; omega
      have HKN := hid hkN
      clear hkN
      gi_wp2
      go_end0
      exact ⟨⟨_, rfl⟩, .inl ⟨_, rfl, by rw [← HKN.out]; exact hJs⟩⟩

theorem chunk_stops (nn Bs Bn : Nat) (A : Option Addr) (ad : Addr) (n c : Nat) (hn : n ≤ 9223372036854775000) (hc : n ≤ c) (hcm : c ≤ 9223372036854775807) (hA : 0 < n → A = some ad) (w : World) (h1 : Bs < w.heap.size) (h2 : Bn < w.heap.size)
    (hs : w.cell? ⟨Bs, 0, none⟩ = some (.slice A n c)) (hb : w.cell? ⟨Bn, 0, none⟩ = some (.int .i64 7)) :
    SeqStopsK Fence.wide nn Try.prog 46 #[.pointer (some ⟨Bs, 0, none⟩), .pointer (some ⟨Bn, 0, none⟩)] (fun x : Nat => #[.slice (some (ad.add (7 * x))) (chL n x) (chL n x)]) (Kp2 Bs Bn) (fun ys => ys = List.range (chN n)) (fun pre => ∃ k, k ≤ chN n ∧ pre = List.range k) (chN n) w :=
  fun l J Jx W hW hJ hJx hY h0 =>
    chunk1_in nn l Bs Bn A ad n c hn hc hcm hA J Jx W hY (fun pre V m h => hJ pre V _ none h (grown_drewN V m) (fun r e => by cases e))
      ((hW.cell (p := ⟨Bs, 0, none⟩) h1).trans hs) ((hW.cell (p := ⟨Bn, 0, none⟩) h2).trans hb) h0

/-- Piece x. -/
def ch (l : List Nat) (x : Nat) : List Nat := (l.drop (7 * x)).take 7
theorem ch_len (l : List Nat) (x : Nat) : (ch l x).length = chL l.length x := by unfold ch chL; simp
theorem ch_all (l : List Nat) (k : Nat) : (List.range k).flatMap (ch l) = l.take (7 * k) := by
  induction k with
  | zero => simp
  | succ k ih =>
    rw [List.range_succ, List.flatMap_append, ih]
    simp only [List.flatMap_cons, List.flatMap_nil, List.append_nil, ch]
    rw [show 7 * (k + 1) = 7 * k + 7 from by omega, List.take_add]
theorem vb_from (b : Nat) (ys : List Nat) : ∀ v, ys.foldl (fun v d => v * b + d) v = v * b ^ ys.length + vb b ys := by
  induction ys with
  | nil => intro v; simp [vb]
  | cons y ys ih =>
    intro v
    have h1 := ih (v * b + y)
    have h2 := ih (0 * b + y)
    simp only [vb, List.foldl_cons, List.length_cons, Nat.pow_succ] at h1 h2 ⊢
    rw [h1, h2]
    grind
theorem vb_append (b : Nat) (xs ys : List Nat) : vb b (xs ++ ys) = vb b xs * b ^ ys.length + vb b ys := by
  have h := vb_from b ys (vb b xs)
  rw [← h]
  simp [vb]
theorem vb_from_bd {b : Nat} {ys : List Nat} : (∀ y ∈ ys, y < b) → ∀ v, ys.foldl (fun v d => v * b + d) v < (v + 1) * b ^ ys.length := by
  induction ys with
  | nil => intro _ v; simp
  | cons y ys ih =>
    intro h v
    have h1 := ih (fun z hz => h z (by simp [hz])) (v * b + y)
    have h2 := h y (by simp)
    simp only [List.foldl_cons, List.length_cons, Nat.pow_succ]
    have h3 : (v * b + y + 1) * b ^ ys.length ≤ ((v + 1) * b) * b ^ ys.length := Nat.mul_le_mul_right _ (by rw [Nat.add_mul, Nat.one_mul]; omega)
    have h4 : ((v + 1) * b) * b ^ ys.length = (v + 1) * (b ^ ys.length * b) := by grind
    omega
theorem vb_bd {b : Nat} {ys : List Nat} (h : ∀ y ∈ ys, y < b) : vb b ys < b ^ ys.length := by
  have := vb_from_bd h 0
  simpa [vb] using this
theorem vb_mono {b : Nat} (hb : 0 < b) (xs ys : List Nat) : vb b xs ≤ vb b (xs ++ ys) := by
  rw [vb_append]
  exact Nat.le_trans (Nat.le_mul_of_pos_right _ (Nat.pow_pos hb)) (Nat.le_add_right _ _)
theorem add_add (ad : Addr) (p q : Nat) : (ad.add p).add q = ad.add (p + q) := by
  unfold Addr.add
  by_cases hp : p = 0
  · subst hp; simp
  · by_cases hq : q = 0
    · subst hq; simp [hp]
    · simp [hp, hq, Nat.add_assoc]
theorem BN.piece {w : World} {B : Nat} {ad : Addr} {l : List Nat} (h : BN w B (some ad) l) (x : Nat) : BN w B (some (ad.add (7 * x))) (ch l x) := by
  intro i hi
  have hi1 : i < (l.drop (7 * x)).length := by unfold ch at hi; simp at hi ⊢; omega
  have hi2 : 7 * x + i < l.length := by simp at hi1; omega
  obtain ⟨ad', e, h1, h2, h3⟩ := h (7 * x + i) hi2
  injection e with e
  subst e
  have e2 : (ch l x)[i] = l[7 * x + i] := by simp [ch]
  refine ⟨_, rfl, by rw [block_of_add]; exact h1, ?_, by rw [e2]; exact h3⟩
  rw [add_add, e2]
  exact h2
end Go.Proofs.Ytohiimpjcgcaiaa
