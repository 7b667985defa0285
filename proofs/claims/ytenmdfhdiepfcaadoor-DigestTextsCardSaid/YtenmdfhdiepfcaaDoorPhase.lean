/- A region whose loads may be taken first as long as its first store has not come up: a condition on the world that holds till then. -/
import Derived.Deep.RegionHeld3
set_option linter.unusedVariables false
set_option linter.unusedSimpArgs false
namespace Go.Proofs.YtenmdfhdiepfcaaDoor
open Go

section
variable {P : Program} {ops : Array Oper} {Q : Exit → Act → World → Prop} {md : Region.Mode} {S : World → Prop} {t : Nat}

/-- Whatever order comes, and S behind each operation till number t has come up. -/
def AnyL (P : Program) (md : Region.Mode) (ops : Array Oper) (Q : Exit → Act → World → Prop) (t : Nat) (S : World → Prop) : Nat → Array Bool → Act → World → Prop
  | 0, l, a, w => Region.ready md ops l = [] ∧ Q .normal a w
  | n + 1, l, a, w =>
    (Region.ready md ops l = [] → Q .normal a w) ∧
    ∀ i, i ∈ Region.ready md ops l → wpOp P ops Q i (fun b u => ((l.setIfInBounds i true).getD t false = false → S u) ∧ AnyL P md ops Q t S n (l.setIfInBounds i true) b u) a w

theorem any_of_L : ∀ (n : Nat) (l : Array Bool) (a : Act) (w : World), AnyL P md ops Q t S n l a w → wpAny P md ops Q n l a w
  | 0, _, _, _, h => h
  | n + 1, _, _, _, h => ⟨h.1, fun i hi => wpOp_mono (fun b u g => any_of_L n _ b u g.2) (h.2 i hi)⟩

/-- Number t waits for number i, through at most n others. -/
def reachL (md : Region.Mode) (ops : Array Oper) : Nat → Nat → Nat → Bool
  | 0, _, _ => false
  | n + 1, t, i => match ops[t]? with | none => false | some o => o.after.any fun e => Region.binds md e && (e.on == i || reachL md ops n e.on i)
def waitsL (md : Region.Mode) (ops : Array Oper) (t i : Nat) : Bool := !(i == t) && (decide (ops.size ≤ t) || reachL md ops ops.size t i)
/-- What has come up had all come up that it waits for. -/
def ClosedL (md : Region.Mode) (ops : Array Oper) (l : Array Bool) : Prop := ∀ (j : Nat) (o : Oper), ops[j]? = some o → l.getD j false = true → ∀ e, e ∈ o.after → Region.binds md e = true → l.getD e.on false = true
def closedB (md : Region.Mode) (ops : Array Oper) (l : Array Bool) : Bool := (List.range ops.size).all fun j => !l.getD j false || (match ops[j]? with | none => true | some o => o.after.all fun e => !Region.binds md e || l.getD e.on false)
theorem closedB_spec {l : Array Bool} (h : closedB md ops l = true) : ClosedL md ops l := by
  intro j o ho hl e he hb
  have hj : j < ops.size := (Array.getElem?_eq_some_iff.1 ho).1
  have h1 := List.all_eq_true.1 h j (List.mem_range.2 hj)
  rw [hl, ho] at h1
  have h2 : o.after.all (fun e => !Region.binds md e || l.getD e.on false) = true := h1
  have h3 := Array.all_eq_true_iff_forall_mem.1 h2 e he
  rw [hb] at h3
  exact h3
theorem ClosedL.set_ {l : Array Bool} {j : Nat} (h : ClosedL md ops l) (hr : j ∈ Region.ready md ops l) : ClosedL md ops (l.setIfInBounds j true) := by
  intro k o ho hl e he hb
  by_cases hjk : j = k
  · subst hjk
    obtain ⟨_, o', ho', hall⟩ := mem_ready.1 hr
    rw [ho] at ho'
    injection ho' with ho'
    subst ho'
    exact getD_set_true (hall e he hb)
  · rw [getD_set_ne false hjk] at hl
    exact getD_set_true (h k o ho hl e he hb)
theorem reach_listed {l : Array Bool} (hc : ClosedL md ops l) : ∀ (n t i : Nat), reachL md ops n t i = true → (∀ o, ops[t]? = some o → ∀ e, e ∈ o.after → Region.binds md e = true → l.getD e.on false = true) → l.getD i false = true := by
  intro n
  induction n with
  | zero => intro t i h _; cases h
  | succ n ih =>
    intro t i h hd
    unfold reachL at h
    split at h
    · cases h
    · rename_i o ho
      rw [Array.any_eq_true] at h
      obtain ⟨k, hk, h2⟩ := h
      have he : o.after[k] ∈ o.after := Array.getElem_mem hk
      generalize o.after[k] = e at he h2
      rw [Bool.and_eq_true] at h2
      have h3 := hd o ho e he h2.1
      rcases (Bool.or_eq_true _ _ ▸ h2.2 : _ = true ∨ _ = true) with h4 | h4
      · rw [← show e.on = i by simpa using h4]; exact h3
      · exact ih e.on i h4 (fun o' ho' e' he' hb' => hc e.on o' ho' h3 e' he' hb')
theorem waitsL_ready {i : Nat} {l : Array Bool} (h : waitsL md ops t i = true) (hc : ClosedL md ops l) (hr : i ∈ Region.ready md ops l) : t ∉ Region.ready md ops l := by
  intro ht
  obtain ⟨h0, o, ho, hall⟩ := mem_ready.1 ht
  unfold waitsL at h
  rw [Bool.and_eq_true] at h
  rcases (Bool.or_eq_true _ _ ▸ h.2 : _ = true ∨ _ = true) with h1 | h1
  · have h2 := of_decide_eq_true h1
    have := (Array.getElem?_eq_some_iff.1 ho).1
    omega
  · have h3 := reach_listed hc ops.size t i h1 (fun o' ho' e he hb => by rw [ho] at ho'; injection ho' with ho'; subst ho'; exact hall e he hb)
    have h4 := (mem_ready.1 hr).1
    rcases Nat.lt_or_ge i l.size with h' | h'
    · simp [h'] at h3 h4; rw [h4] at h3; cases h3
    · simp [Array.getElem?_eq_none h'] at h3

theorem AnyL_first {i : Nat} {oi : Oper} {v : Value} (hi : ops[i]? = some oi) (hsel : ∀ (j : Nat) (o : Oper) cs b, ops[j]? = some o → o.op ≠ .select cs b)
    (hQ : ∀ c a w, Q (.panic c) (a.put oi.dst v) w → Q (.panic c) a w) (hw : waitsL md ops t i = true) (n : Nat) :
    ∀ (l : Array Bool) (a : Act) (w : World),
      (∀ j oj, ops[j]? = some oj → j ≠ i → l.getD j true = false → (∀ e ∈ oj.after, Region.binds md e = true → e.on ≠ i) → oi.apart ops oj = true) →
      l.getD t false = false → ClosedL md ops l → i ∈ Region.ready md ops l → YieldsIf P ops S oi v a → S w →
      AnyL P md ops Q t S n (l.setIfInBounds i true) (a.put oi.dst v) w → AnyL P md ops Q t S (n + 1) l a w := by
  have hit : i ≠ t := by unfold waitsL at hw; rw [Bool.and_eq_true] at hw; simpa using hw.1
  induction n with
  | zero =>
    intro l a w _ hl hc hr hy hS H
    refine ⟨fun h => (by rw [h] at hr; cases hr), fun j hj => ?_⟩
    by_cases hji : j = i
    · subst hji; exact hy.wpOp hi hS ⟨fun _ => hS, H⟩
    · have := ready_mono hj hji
      rw [H.1] at this
      cases this
  | succ n ih =>
    intro l a w hfree hl hc hr hy hS H
    refine ⟨fun h => (by rw [h] at hr; cases hr), fun j hj => ?_⟩
    by_cases hji : j = i
    · subst hji; exact hy.wpOp hi hS ⟨fun _ => hS, H⟩
    · have hjt : j ≠ t := fun e => waitsL_ready hw hc hr (e ▸ hj)
      obtain ⟨hjun, oj, hoj, hall⟩ := mem_ready.1 hj
      have hnot : ∀ e ∈ oj.after, Region.binds md e = true → e.on ≠ i := fun e he hb heq => by
        have h1 := hall e he hb
        have h0 := (mem_ready.1 hr).1
        rw [heq] at h1
        rcases Nat.lt_or_ge i l.size with h' | h'
        · simp [h'] at h0 h1; rw [h0] at h1; cases h1
        · simp [Array.getElem?_eq_none h'] at h1
      have g := wpOp_putIf hoj (hfree j oj hoj hji hjun hnot) (fun cs b => hsel i oi cs b hi) (fun cs b => hsel j oj cs b hoj) hQ hy (H.2 j (ready_mono hj hji))
      have hl2 : (l.setIfInBounds j true).getD t false = false := by rw [getD_set_ne false hjt]; exact hl
      refine wpOp_mono (fun b u g => ?_) g
      obtain ⟨g1, g2, g3⟩ := g
      have hS2 : S u := g2 (by rw [getD_set_ne false hjt, getD_set_ne false hit]; exact hl)
      refine ⟨fun _ => hS2, ih _ b u (fun k ok hk hki hun hno => hfree k ok hk hki ?_ hno) hl2 (hc.set_ hj) (ready_mono hr (Ne.symm hji)) g1 hS2 (by rw [Array.setIfInBounds_comm _ _ hji]; exact g3)⟩
      by_cases hjk : j = k
      · subst hjk; exact hjun
      · rw [getD_set_ne true hjk] at hun; exact hun

theorem AnyL_take {i : Nat} {oi : Oper} {v : Value} {n : Nat} {l : Array Bool} {a : Act} {w : World} (hi : ops[i]? = some oi)
    (hs : Region.noSelect ops = true) (hf : Region.free md ops l i = true) (hr : (Region.ready md ops l).contains i = true) (hw : (waitsL md ops t i && (!l.getD t false && closedB md ops l)) = true)
    (hQ : ∀ c a w, Q (.panic c) (a.put oi.dst v) w → Q (.panic c) a w) (hy : YieldsIf P ops S oi v a) (hS : S w)
    (h : AnyL P md ops Q t S n (l.setIfInBounds i true) (a.put oi.dst v) w) : AnyL P md ops Q t S (n + 1) l a w := by
  rw [Bool.and_eq_true, Bool.and_eq_true] at hw
  exact AnyL_first hi (Region.noSelect_spec hs) hQ hw.1 n l a w (Region.free_spec hi hf) (by simpa using hw.2.1) (closedB_spec hw.2.2) (by simpa using hr) hy hS h

def ReadyL (P : Program) (md : Region.Mode) (ops : Array Oper) (Q : Exit → Act → World → Prop) (t : Nat) (S : World → Prop) (n : Nat) (l : Array Bool) (a : Act) (w : World) (rs : List Nat) : Prop :=
  ∀ i, i ∈ rs → wpOp P ops Q i (fun b u => ((l.setIfInBounds i true).getD t false = false → S u) ∧ AnyL P md ops Q t S n (l.setIfInBounds i true) b u) a w
theorem ReadyL.nil {n : Nat} {l : Array Bool} {a : Act} {w : World} : ReadyL P md ops Q t S n l a w [] := fun _ h => by cases h
/-- An operation ahead of number t: S is to be shown behind it. -/
theorem ReadyL.cons {n : Nat} {l : Array Bool} {a : Act} {w : World} {i : Nat} {o : Oper} {rs : List Nat} (ho : ops[i]? = some o)
    (h : ∀ K : Act → World → Prop, Shut (∀ b u, S u → (S u → AnyL P md ops Q t S n (l.setIfInBounds i true) b u) → K b u) → if Region.wanted o (yielded ops a.tmps) = true then Oper.wp P o a w K Q else K (a.put o.dst undef) w)
    (hs : ReadyL P md ops Q t S n l a w rs) : ReadyL P md ops Q t S n l a w (i :: rs) := fun j hj => by
  rcases List.mem_cons.1 hj with rfl | hj
  · exact wpOp_step ho (fun K hK => h K (fun b u hS hW => hK b u ⟨fun _ => hS, hW hS⟩))
  · exact hs j hj
/-- Number t itself, or one behind it. -/
theorem ReadyL.late {n : Nat} {l : Array Bool} {a : Act} {w : World} {i : Nat} {o : Oper} {rs : List Nat} (ho : ops[i]? = some o) (ht : (l.setIfInBounds i true).getD t false = true)
    (h : ∀ K : Act → World → Prop, Shut (∀ b u, True → (True → AnyL P md ops Q t S n (l.setIfInBounds i true) b u) → K b u) → if Region.wanted o (yielded ops a.tmps) = true then Oper.wp P o a w K Q else K (a.put o.dst undef) w)
    (hs : ReadyL P md ops Q t S n l a w rs) : ReadyL P md ops Q t S n l a w (i :: rs) := fun j hj => by
  rcases List.mem_cons.1 hj with rfl | hj
  · exact wpOp_step ho (fun K hK => h K (fun b u _ hW => hK b u ⟨fun e => absurd ht (by rw [e]; decide), hW trivial⟩))
  · exact hs j hj
theorem AnyL_ready {rs : List Nat} {n : Nat} {l : Array Bool} {a : Act} {w : World} (hr : Region.ready md ops l = rs) (hne : rs ≠ [])
    (h : ReadyL P md ops Q t S n l a w rs) : AnyL P md ops Q t S (n + 1) l a w := ⟨fun h0 => absurd (hr ▸ h0) hne, fun i hi => h i (hr ▸ hi)⟩
theorem AnyL_done {l : Array Bool} {a : Act} {w : World} (hr : Region.ready md ops l = []) (h : Q .normal a w) : ∀ n, AnyL P md ops Q t S n l a w
  | 0 => ⟨hr, h⟩
  | _ + 1 => ⟨fun _ => h, by rw [hr]; simp⟩
theorem region_L {id : Nat} {a : Act} {w : World} (t : Nat) (S : World → Prop) (hm : P.follows .mixedOrders = true) (hS : S w.drew)
    (h : S w.drew → AnyL P .any ops Q t S ops.size (Array.replicate ops.size false) a w.drew) : (Code.region id ops true).wp P Q a w :=
  wp_region_any hm (any_of_L _ _ _ _ (h hS))
theorem AnyL_name {fuel : Nat} {l : Array Bool} {a : Act} {w : World} (Fc : World → Prop) (hf : Fc w)
    (h : ∀ W', Fc W' → AnyL P md ops Q t S fuel l a W') : AnyL P md ops Q t S fuel l a w := h w hf
end

end Go.Proofs.YtenmdfhdiepfcaaDoor
