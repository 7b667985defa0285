/- The reference of layer 4: times, value. -/
import Derived.Test.YtohiimpjcgcaiaaRd3
import Derived.Maps.AppendAt
set_option linter.unusedVariables false
set_option linter.unusedSimpArgs false
namespace Go.Proofs.Ytohiimpjcgcaiaa
open Go.RowKit

theorem wp_app1 {ops : Array Oper} {rest : List Oper} {o : Oper} {a : Act} {Q : Exit → Act → World → Prop} (hgd : o.guard = none) (s x : Operand)
    (ho : o.op = .call { callee := .builtin .append, args := #[s, x], argTypes := #[22, 22] }) (base : Nat) (V : World) (v : Value) (k S y : Nat) (hs : a.eval s = v) (hO : OwnsV V base v k S)
    (hx : a.eval x = .slice (some ⟨V.heap.size, 0, none⟩) 1 1) (hy : y ≤ 4294967295) (hk : k ≤ 1000000) (hb : base ≤ V.heap.size)
    (h : ∀ A c w', OwnsV w' base (.slice (some A) (k + 1) c) (k + 1) (y * 2 ^ (32 * k) + S) → Below base V w' → A.block < w'.heap.size → k + 1 ≤ c → wpList Try.prog ops Q rest (a.put o.dst (.slice (some A) (k + 1) c)) w') :
    wpList Try.prog ops Q (o :: rest) a (V.alloc (.cells #[.int .u32 ((y : Nat) : Int)] 49)) := by
  obtain ⟨i0, hi0, hz0, hz1, hz2⟩ := info_parts info49
  have hy2 : y < 2 ^ (32 * 1) := by show y < 4294967296; omega
  have hw : words 1 y = #[.int .u32 ((y : Nat) : Int)] := by
    show #[Value.int .u32 ((dig y 0 : Nat) : Int)] = _
    rw [show dig y 0 = y by unfold dig; rw [show 2 ^ (32 * 0) = 1 from rfl]; omega]
  have hN : Num (V.alloc (.cells #[.int .u32 ((y : Nat) : Int)] 49)) (V.heap.size + 1) (some ⟨V.heap.size, 0, none⟩) 1 y := by
    rw [← hw]; exact Row.num ⟨hy2, Blk.new V 49 (words 1 y)⟩ (by omega)
  refine wpList_append_own_at _ hgd s x 22 ho base 49 i0 (.int .u32 0) 1 4 Try.underlying22 hi0 hz0 hz1 hz2 rfl (by decide) v k (words k S).toList hs (hO.alloc _).2 ⟨V.heap.size, 0, none⟩ 1 1 (words 1 y).toList hx (words_len 1 y) hN.news (words_oneCell 1 y) (by unfold maxLen; omega) (by omega) (by simp; omega) ?_
  intro v' w' hown hg hnil _
  have h1 := OwnsV.app (k := k) (m := 1) hO.1 hy2 hown
  have hb1 : Below base V w' := ((Below.refl _ _).alloc hb _).grown hg (by simp; omega) (fun j hj => (hO.2.lt j hj).1)
  obtain ⟨A, c, rfl, hO2⟩ := h1.own
  cases A with
  | none => exact absurd (hO2.2.2.2 (by omega)) (by rintro ⟨g, cs, e, _⟩; cases e)
  | some A =>
    obtain ⟨g, cs, e, h2, h3, h4⟩ := hO2.2.2.2 (by omega)
    injection e with e
    subst e
    exact h _ _ _ h1 hb1 h3.lt hO2.2.1
theorem OwnsV.num {w : World} {base k s c B : Nat} {A : Option Addr} (h : OwnsV w base (.slice A k c) k s) (hB : w.heap.size ≤ B) : Num w B A k s := by
  obtain ⟨A', c', e, ho⟩ := h.own
  injection e with e1 e2 e3
  subst e1
  exact ho.num.more hB


theorem tm_step {a k d y C S q r : Nat} (h : S + C * 2 ^ (32 * k) = a % 2 ^ (32 * k) * d + y) (e : r + q * 4294967296 = dig a k * d + C) :
    (r * 2 ^ (32 * k) + S) + q * 2 ^ (32 * (k + 1)) = a % 2 ^ (32 * (k + 1)) * d + y := by
  have h1 : a % 2 ^ (32 * (k + 1)) = dig a k * 2 ^ (32 * k) + a % 2 ^ (32 * k) := by
    rw [pw_succ, Nat.mod_mul, Nat.add_comm, Nat.mul_comm]; rfl
  rw [h1, Nat.add_mul, pw_succ]
  have h2 : dig a k * 2 ^ (32 * k) * d + C * 2 ^ (32 * k) = (dig a k * d + C) * 2 ^ (32 * k) := by grind
  have h3 : q * (2 ^ (32 * k) * 4294967296) = q * 4294967296 * 2 ^ (32 * k) := by grind
  have h4 : (dig a k * d + C) * 2 ^ (32 * k) = r * 2 ^ (32 * k) + q * 4294967296 * 2 ^ (32 * k) := by rw [← e, Nat.add_mul]
  omega
theorem tm_carry {a k d y C S : Nat} (h : S + C * 2 ^ (32 * k) = a % 2 ^ (32 * k) * d + y) (hy : y < d) : C < d := by
  have h1 := Nat.mod_lt a (pw_pos k)
  have h2 : (a % 2 ^ (32 * k) + 1) * d ≤ 2 ^ (32 * k) * d := Nat.mul_le_mul_right _ h1
  rw [Nat.add_mul] at h2
  have h3 : C * 2 ^ (32 * k) < d * 2 ^ (32 * k) := by rw [Nat.mul_comm d]; omega
  exact Nat.lt_of_mul_lt_mul_right h3

set_option maxHeartbeats 4000000 in
set_option maxRecDepth 100000 in
theorem times_any (A : Option Addr) (n c a B d y : Nat) (w : World) (hA : Num w B A n a) (hB : B ≤ w.heap.size) (hn : n ≤ 100000) (hd : d ≤ 256) (hy : y < d) :
    Calls Try.prog 29 #[.slice A n c, .int .u64 ((d : Nat) : Int), .int .u64 ((y : Nat) : Int)] w (fun e w' => ∃ v k, e = .returned v ∧ OwnsV w' w.heap.size v k (a * d + y) ∧ n ≤ k ∧ (n < k → 2 ^ (32 * n) ≤ a * d + y) ∧ k ≤ n + 1 ∧ Below w.heap.size w w') := by
  have HA := hid hA
  clear hA
  go_enter Try.func29, Try.ntmps29
  go_wp2_with fail
  go_loopw [7, 8, 9] (fun o cy i wr => ∃ (k C S : Nat), k ≤ n ∧ i = .int .i64 ((k : Nat) : Int) ∧ cy = .int .u64 ((C : Nat) : Int) ∧ OwnsV wr w.heap.size o k S ∧ Hid (S + C * 2 ^ (32 * k) = a % 2 ^ (32 * k) * d + y) ∧ Below w.heap.size w wr) (fun _ _ i _ => n - (intOf i).toNat)
  case atStart => exact ⟨0, y, 0, by omega, by go_num, by go_num, OwnsV.none_ _ _, (show 0 + y * 2 ^ (32 * 0) = a % 2 ^ (32 * 0) * d + y by simp [Nat.mod_one]), Below.refl _ _⟩
  case round =>
    obtain ⟨k, C, S, hk, rfl, rfl, HO, HE, WW⟩ := hrel
    have hC := tm_carry HE.out hy
    by_cases hkn : k < n
    · obtain ⟨ad, rfl, hab, hac⟩ := (HA.out.below (WW.mono hB)).at_ hkn
      obtain ⟨x, hx⟩ : ∃ x, x = dig a k := ⟨_, rfl⟩
      have hx1 : x ≤ 4294967295 := by have := dig_lt a k; omega
      obtain ⟨p, hp⟩ : ∃ p, p = x * d := ⟨_, rfl⟩
      have hp1 : p ≤ 1099511627520 := by rw [hp]; exact Nat.mul_le_mul hx1 hd
      obtain ⟨r, hr⟩ : ∃ r, r = (p + C) % 4294967296 := ⟨_, rfl⟩
      obtain ⟨q, hq⟩ : ∃ q, q = (p + C) / 4294967296 := ⟨_, rfl⟩
      have hp2 : ((x : Nat) : Int) * ((d : Nat) : Int) = ((p : Nat) : Int) := by rw [hp, Int.natCast_mul]
      have hr2 : (((p : Nat) : Int) + ((C : Nat) : Int)) % 4294967296 = ((r : Nat) : Int) := by omega
      have hq2 : (((p : Nat) : Int) + ((C : Nat) : Int)) / 4294967296 = ((q : Nat) : Int) := by omega
      have hr1 : r ≤ 4294967295 := by omega
      have HE2 := hid (tm_step (q := q) (r := r) HE.out (by rw [← hx, ← hp]; omega))
      rw [← hx] at hac
      have l1 : decide (((k : Nat) : Int) < ((n : Nat) : Int)) = true := by simpa using hkn
      have hk2 : k ≤ 1000000 := by omega
      have HWS := hid WW.size
      have HWW := hid WW
      have HOO := hid HO
      clear HO WW hx hp hr hq HE
      go_wp2_with (at_builtin; refine wp_app1 rfl _ _ rfl w.heap.size wr u7 k S r rfl HOO.out rfl hr1 hk2 HWS.out ?_; intro A2 c2 w2 ho hb _ _; have HO2 := hid ho; have HB2 := hid hb; clear ho hb)
      go_roundw
      case rel => exact ⟨k + 1, q, _, by omega, by go_num, by go_num, HO2.out, HE2, HWW.out.trans HB2.out⟩
      case measure => simp [intOf] <;> omega
    · obtain rfl : k = n := by omega
      have hmod : a % 2 ^ (32 * k) = a := Nat.mod_eq_of_lt HA.out.lt
      have l1 : decide (((k : Nat) : Int) < ((k : Nat) : Int)) = false := by simp
      have HWS := hid WW.size
      have HWW := hid WW
      have HOO := hid HO
      have HE2 : Hid (S + C * 2 ^ (32 * k) = a * d + y) := (show _ = _ by rw [HE.out, hmod])
      have hk2 : k ≤ 1000000 := by omega
      have hC1 : C ≤ 4294967295 := by omega
      clear HO WW HE
      by_cases hC0 : C = 0
      · subst hC0
        have HS : Hid (S = a * d + y) := (show S = _ by rw [← HE2.out]; simp)
        go_wp2_with fail
        exact bodyPost_ret (v := u7) (by simp [results, Try.results29, go_sem]) rfl ⟨_, k, rfl, by rw [← HS.out]; exact HOO.out, Nat.le_refl _, fun h => absurd h (Nat.lt_irrefl _), by omega, HWW.out⟩
      · have HEE : Hid (a * d + y = C * 2 ^ (32 * k) + S) := (show _ = _ by rw [← HE2.out, Nat.add_comm])
        have hc0 : decide (((C : Nat) : Int) > 0) = true := by simp; omega
        have hcm : ((C : Nat) : Int) % 4294967296 = ((C : Nat) : Int) := by omega
        have HG : Hid (2 ^ (32 * k) ≤ a * d + y) := (show 2 ^ (32 * k) ≤ _ by rw [← HE2.out]; exact Nat.le_trans (Nat.le_mul_of_pos_left _ (by omega)) (Nat.le_add_left _ _))
        go_wp2_with (at_builtin; refine wp_app1 rfl _ _ rfl w.heap.size wr u7 k S C rfl HOO.out rfl hC1 hk2 HWS.out ?_; intro A2 c2 w2 ho hb _ _; have HO2 := hid ho; have HB2 := hid hb; clear ho hb)
        exact bodyPost_ret (v := .slice (some A2) (k + 1) c2) (by simp [results, Try.results29, go_sem]) rfl ⟨_, k + 1, rfl, by rw [HEE.out]; exact HO2.out, by omega, fun _ => HG.out, Nat.le_refl _, HWW.out.trans HB2.out⟩
end Go.Proofs.Ytohiimpjcgcaiaa
