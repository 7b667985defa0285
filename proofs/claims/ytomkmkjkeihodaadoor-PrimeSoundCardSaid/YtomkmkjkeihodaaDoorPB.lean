/- P5, P6, P7, P8: merged. -/
import Derived.Test.YtomkmkjkeihodaaDoorPA
import Derived.Maps.AppendAt
import Derived.OneCell
set_option linter.unusedVariables false
set_option linter.unusedSimpArgs false
namespace Go.Proofs.YtomkmkjkeihodaaDoor
open Go.RowKit

def ivl (d : Nat) : Value := .int .i64 ((d : Nat) : Int)
/-- v is a slice of the ints l, in memory of the call's own, from block base on (or nil). -/
def OI (w : World) (base : Nat) (v : Value) (l : List Nat) : Prop := w.ownsRow base 3 1 v l.length (l.map ivl)

section
variable {w w' : World} {base b : Nat} {v : Value} {l : List Nat}
theorem OI.nil (w : World) (base : Nat) : OI w base (.slice none 0 0) [] := World.ownsRow_nil _ _ _ _
theorem OI.below (h : OI w base v l) {b : Nat} (hb : Below b w w') (hs : w.heap.size ≤ b) : OI w' base v l :=
  World.ownsRow.kept (row := none) h ⟨hb.os, hb.tape, hb.output, hb.size, fun j hj _ => hb.block j (by omega)⟩ (by cases v.ownBlock <;> simp)
theorem OI.alloc (h : OI w base v l) (o : Obj) : OI (w.alloc o) base v l := World.ownsRow.alloc h o
theorem OI.drew (h : OI w base v l) : OI w.drew base v l := h
theorem OI.blk (h : OI w base v l) : (v = .slice none 0 0 ∧ l = []) ∨
    ∃ g c cur, v = .slice (some ⟨g, 0, none⟩) l.length c ∧ base ≤ g ∧ Blk w g 3 cur ∧ l.length ≤ c ∧ c ≤ maxLen ∧ cur.size = c ∧ cur.toList.take l.length = l.map ivl := by
  rcases h.2 with ⟨h1, h2⟩ | ⟨g, c, cur, h1, h2, h3, h4, h5, h6, h7⟩
  · exact .inl ⟨h1, List.length_eq_zero_iff.1 h2⟩
  · exact .inr ⟨g, c, cur, h1, h2, h3, h4, h5, by omega, by simpa using h7⟩
theorem OI.slc (h : OI w base v l) : ∃ A c, v = .slice A l.length c := by
  rcases h.blk with ⟨h1, h2⟩ | ⟨g, c, cur, h1, _⟩
  · exact ⟨none, 0, by rw [h1, h2]; rfl⟩
  · exact ⟨_, c, h1⟩
theorem OI.cell {A : Option Addr} {n c : Nat} (h : OI w base (.slice A n c) l) {i : Nat} (hi : i < l.length) :
    ∃ g, A = some ⟨g, 0, none⟩ ∧ base ≤ g ∧ w.cell? ⟨g, i, none⟩ = some (ivl l[i]) ∧ w.frozen? ⟨g, i, none⟩ = false := by
  rcases h.blk with ⟨h1, h2⟩ | ⟨g, c', cur, h1, h2, h3, h4, h5, h6, h7⟩
  · subst h2; exact absurd hi (by simp)
  · injection h1 with e1 e2 e3
    refine ⟨g, e1, h2, ?_, h3.frozen i⟩
    rw [h3.cell i]
    have e : (l.map ivl)[i]? = some (ivl l[i]) := by rw [List.getElem?_map, List.getElem?_eq_getElem hi]; rfl
    rw [← h7, List.getElem?_take, if_pos hi, Array.getElem?_toList] at e
    exact e
/-- A store into a block of another type leaves it. -/
theorem OI.box (h : OI w base v l) {p : Addr} {t : TypeId} {cs : Array Value} (hp : Blk w p.block t cs) (ht : t ≠ 3) (u : Value) : OI (w.setCell p u) base v l := by
  refine ownsRow_setCell_other h (fun e => ?_) u
  rcases h.blk with ⟨h1, h2⟩ | ⟨g, c', cur, h1, h2, h3, _⟩
  · rw [h1] at e; cases e
  · rw [h1] at e
    injection e with e
    have e' : g = p.block := e
    subst e'
    unfold Blk at h3 hp
    rw [h3] at hp
    injection hp with hp
    injection hp with _ hp
    exact ht hp.symm
theorem OI.weak (h : OI w base v l) (hb : b ≤ base) : OI w b v l := by
  refine ⟨h.1, ?_⟩
  rcases h.2 with h1 | ⟨g, c, cur, h1, h2, h3⟩
  · exact .inl h1
  · exact .inr ⟨g, c, cur, h1, by omega, h3⟩
theorem OI.row (h : OI w base v l) : ∀ k, v.ownBlock = some k → base ≤ k ∧ k < w.heap.size := World.ownsRow.lt h
/-- What does not lie in the row stays. -/
theorem OI.apart (h : OI w base v l) {g : Nat} {t : TypeId} {cs : Array Value} (hp : Blk w g t cs) (ht : t ≠ 3) : some g ≠ v.ownBlock := by
  intro e
  rcases h.blk with ⟨h1, h2⟩ | ⟨g', c', cur, h1, h2, h3, _⟩
  · rw [h1] at e; cases e
  · rw [h1] at e
    injection e with e
    have e' : g = g' := e
    subst e'
    unfold Blk at h3 hp
    rw [h3] at hp
    injection hp with hp
    injection hp with _ hp
    exact ht hp.symm
theorem OI.gblk (h : OI w base v l) (hg : w.grownBy w' v.ownBlock) {g : Nat} {t : TypeId} {cs : Array Value} (hp : Blk w g t cs) (ht : t ≠ 3) : Blk w' g t cs := hp.grown hg (h.apart hp ht)
theorem OI.gown (h : OI w base v l) (hg : w.grownBy w' v.ownBlock) {A : Option Addr} {n c a : Nat} (ho : Own w b A n c a) : Own w' b A n c a :=
  ⟨ho.1, ho.2.1, ho.2.2.1, fun hn => by
    obtain ⟨g, cs, e, h1, h2, h3⟩ := ho.2.2.2 hn
    exact ⟨g, cs, e, h1, h.gblk hg h2 (by decide), h3⟩⟩
theorem OI.gnum (h : OI w base v l) (hg : w.grownBy w' v.ownBlock) {A : Option Addr} {B n a : Nat} (hB : B ≤ base) (hs : B ≤ w.heap.size) (hn : Num w B A n a) : Num w' B A n a :=
  hn.keep fun p hp => World.cell?_of_block (hg.block p.block (by omega) (fun e => by have := (h.row _ e.symm).1; omega))
theorem OI.gvb (h : OI w base v l) (hg : w.grownBy w' v.ownBlock) {A : Option Addr} {B g n c a : Nat} (hB : B ≤ base) (hv : VB B w g A n c a) : VB B w' g A n c a := by
  refine ⟨h.gblk hg hv.1 (by decide), ?_, hv.2.2⟩
  rcases hv.2.1 with h1 | h1
  · exact .inl (h.gnum hg hB (Nat.le_trans hv.2.2 (Nat.le_of_lt hv.1.lt)) h1)
  · exact .inr (h.gown hg h1)
theorem OI.gbelow (h : OI w base v l) (hg : w.grownBy w' v.ownBlock) {B : Nat} {w0 : World} (hB : B ≤ base) (hs : B ≤ w.heap.size) (hb : Below B w0 w) : Below B w0 w' :=
  hb.grown hg hs (fun k e => Nat.le_trans hB (h.row k e).1)
end

theorem info3 : (Tryd.prog.info? 3).map (fun i => (i.zero, i.size, i.bytes)) = some (some (.int .i64 0), 1, 8) := by kernel_rfl
theorem ivl_one (l : List Nat) : ∀ u ∈ l.map ivl, u.oneCell' = true := by
  intro u hu
  obtain ⟨d, _, rfl⟩ := List.mem_map.1 hu
  rfl

set_option maxRecDepth 100000 in
theorem wp_appi {ops : Array Oper} {rest : List Oper} {o : Oper} {a : Act} {Q : Exit → Act → World → Prop} (hgd : o.guard = none) (s x : Operand)
    (ho : o.op = .call { callee := .builtin .append, args := #[s, x], argTypes := #[28, 28] }) (base : Nat) (V : World) (v : Value) (l : List Nat) (y : Nat) (hs : a.eval s = v) (hO : OI V base v l)
    (hx : a.eval x = .slice (some ⟨V.heap.size, 0, none⟩) 1 1) (hk : l.length ≤ 1000000) (hb : base ≤ V.heap.size)
    (h : ∀ v' w', OI w' base v' (l ++ [y]) → V.grownBy w' v.ownBlock → wpList Tryd.prog ops Q rest (a.put o.dst v') w') :
    wpList Tryd.prog ops Q (o :: rest) a (V.alloc (.cells #[.int .i64 ((y : Nat) : Int)] 3)) := by
  obtain ⟨i0, hi0, hz0, hz1, hz2⟩ := info_parts info3
  refine wpList_append_own_at _ hgd s x 28 ho base 3 i0 (.int .i64 0) 1 8 Tryd.underlying28 hi0 hz0 hz1 hz2 rfl (by decide) v l.length (l.map ivl) hs (hO.alloc _) ⟨V.heap.size, 0, none⟩ 1 1 [ivl y] hx rfl ?_ (ivl_one [y]) (by unfold maxLen; omega) (by omega) (by simp; omega) ?_
  · intro j u hu
    have hB := Blk.new V 3 #[ivl y]
    cases j with
    | zero => injection hu with hu; subst hu; exact (hB.cell 0).trans rfl
    | succ j => cases hu
  intro v' w' hown hg _ _
  refine h v' w' ?_ ?_
  · unfold OI; simpa using hown
  · refine ⟨hg.os, hg.tape, hg.output, Nat.le_trans (by simp) hg.size, fun k hk hne => ?_⟩
    exact (hg.block k (by simp; omega) hne).trans (Below.heap_alloc V _ k hk)

theorem OI.slc2 {w : World} {base : Nat} {v : Value} {l : List Nat} (h : OI w base v l) {n : Nat} (hn : l.length = n) : ∃ A c, v = .slice A n c := by subst hn; exact h.slc
/-- A slice that reads as the ints l, below block B. -/
def IN (w : World) (B : Nat) (A : Option Addr) (l : List Nat) : Prop := ∀ i (h : i < l.length), ∃ ad, A = some ad ∧ ad.block < B ∧ w.cell? (ad.add i) = some (ivl l[i])
theorem IN.below {w w' : World} {B : Nat} {A : Option Addr} {l : List Nat} (h : IN w B A l) (hb : Below B w w') : IN w' B A l := by
  intro i hi
  obtain ⟨ad, e, h1, h2⟩ := h i hi
  exact ⟨ad, e, h1, (hb.cell (p := ad.add i) (by show (ad.add i).block < B; unfold Addr.add; split <;> exact h1)).trans h2⟩
theorem OI.reads {w : World} {b n c : Nat} {A : Option Addr} {l : List Nat} (h : OI w b (.slice A n c) l) : IN w w.heap.size A l := fun i hi => by
  obtain ⟨g, e, h1, h2, h3⟩ := h.cell hi
  refine ⟨_, e, ?_, by rw [add_at, Nat.zero_add]; exact h2⟩
  exact World.block_lt_of_cell? w ⟨g, i, none⟩ h2
/-- The least divisor from f on, up to 2^20; 0 if there is none. -/
def dv (n f : Nat) : Nat := ((List.range' f (1048577 - f)).find? fun d => n % d == 0).getD 0
theorem find_from {p : Nat → Bool} : ∀ (s f k : Nat), (∀ i, i < k → p (f + i) = false) → k < s → p (f + k) = true → (List.range' f s).find? p = some (f + k)
  | 0, f, k, _, h, _ => absurd h (by omega)
  | s + 1, f, k, hn, h, hp => by
    rw [List.range'_succ, List.find?_cons]
    cases k with
    | zero => rw [Nat.add_zero] at hp; rw [hp]; rfl
    | succ k =>
      have h0 := hn 0 (by omega)
      rw [Nat.add_zero] at h0
      rw [h0]
      have := find_from s (f + 1) k (fun i hi => by have := hn (i + 1) (by omega); rw [show f + 1 + i = f + (i + 1) by omega]; exact this) (by omega) (by rw [show f + 1 + k = f + (k + 1) by omega]; exact hp)
      rw [this, show f + 1 + k = f + (k + 1) by omega]
theorem find_gone {p : Nat → Bool} {s f : Nat} (hn : ∀ i, i < s → p (f + i) = false) : (List.range' f s).find? p = none := by
  rw [List.find?_eq_none]
  intro x hx
  rw [List.mem_range'_1] at hx
  have := hn (x - f) (by omega)
  rw [show f + (x - f) = x by omega] at this
  simp [this]
set_option maxHeartbeats 4000000 in
set_option maxRecDepth 100000 in
theorem divisor_any (n f : Nat) (w : World) (hn : n ≤ 9223372036854775807) (hf0 : 0 < f) (hf : f ≤ 1048577) :
    Calls Tryd.prog 37 #[.int .i64 ((n : Nat) : Int), .int .i64 ((f : Nat) : Int)] w (Ex (.int .i64 ((dv n f : Nat) : Int)) w) := by
  go_enter Tryd.func37, Tryd.ntmps37
  go_wp2_with fail
  go_loopw [5] (fun d wr => ∃ k : Nat, f + k ≤ 1048577 ∧ d = .int .i64 ((f + k : Nat) : Int) ∧ wr = w ∧ Hid (∀ i, i < k → n % (f + i) ≠ 0)) (fun d _ => 1048577 - (intOf d).toNat)
  case atStart => exact ⟨0, by omega, by go_num, rfl, (show ∀ i, i < 0 → _ from fun i h => absurd h (by omega))⟩
  case round =>
    obtain ⟨k, hk, rfl, rfl, HN⟩ := hrel
    obtain ⟨d, hd⟩ : ∃ d, d = f + k := ⟨_, rfl⟩
    rw [← hd] at hk ⊢
    have HD := hid hd
    have hd0 : 1 ≤ d := by omega
    by_cases h1 : d ≤ 1048576
    · have l1 : decide (((d : Nat) : Int) ≤ 1048576) = true := by simp; omega
      by_cases h2 : n % d = 0
      · have l2 := rem_yes h2
        have HR : Hid (dv n f = d) := (show _ = _ by
          unfold dv
          rw [find_from (1048577 - f) f k (fun i hi => by simpa using HN.out i hi) (by omega) (by rw [← HD.out]; simpa using h2), ← HD.out]; rfl)
        clear h2 hd
        go_wp2_with fail
        go_ret
        exact ⟨by rw [HR.out]; rfl, rfl⟩
      · have l2 := rem_no h2
        have H2 := hid h2
        clear h2 hd
        go_wp2_with fail
        go_roundw
        case rel => exact ⟨k + 1, by rw [← Nat.add_assoc, ← HD.out]; omega, by rw [← Nat.add_assoc, ← HD.out]; go_num, trivial, (show ∀ i, i < k + 1 → _ from fun i hi => by
          rcases Nat.lt_or_ge i k with h | h
          · exact HN.out i h
          · obtain rfl : i = k := by omega
            rw [← HD.out]; exact H2.out)⟩
        case measure => simp [intOf] <;> omega
    · have l1 : decide (((d : Nat) : Int) ≤ 1048576) = false := by simp; omega
      have HR : Hid (dv n f = 0) := (show _ = _ by
        unfold dv
        rw [find_gone (fun i hi => by simpa using HN.out i (by omega))]; rfl)
      clear hd
      go_wp2_with fail
      go_ret
      exact ⟨by rw [HR.out]; rfl, rfl⟩
end Go.Proofs.YtomkmkjkeihodaaDoor

namespace Go.Proofs.YtomkmkjkeihodaaDoor
open Go.RowKit

theorem dv_spec {n f : Nat} (h : dv n f ≠ 0) : f ≤ dv n f ∧ dv n f ≤ 1048576 ∧ n % dv n f = 0 ∧ ∀ i, f ≤ i → i < dv n f → n % i ≠ 0 := by
  unfold dv at h ⊢
  cases e : (List.range' f (1048577 - f)).find? fun d => n % d == 0 with
  | none => rw [e] at h; exact absurd rfl h
  | some d =>
    obtain ⟨h1, h2, h3⟩ := List.find?_range'_eq_some.1 e
    rw [List.mem_range'_1] at h2
    exact ⟨h2.1, by show d ≤ _; omega, by simpa using h1, fun i hi hid => by simpa using h3 i hi hid⟩
theorem dv_none {n f : Nat} (h : dv n f = 0) (hf : 0 < f) : ∀ i, f ≤ i → i ≤ 1048576 → n % i ≠ 0 := by
  unfold dv at h
  cases e : (List.range' f (1048577 - f)).find? fun d => n % d == 0 with
  | none => exact fun i hi hi2 => by simpa using List.find?_range'_eq_none.1 e i hi (by omega)
  | some d =>
    obtain ⟨h1, h2, h3⟩ := List.find?_range'_eq_some.1 e
    rw [List.mem_range'_1] at h2
    rw [e] at h
    have h' : d = 0 := h
    omega
/-- The factors, as the program finds them: k bounds the steps. -/
def fac : Nat → Nat → Nat → Option (List Nat)
  | 0, _, _ => none
  | k + 1, m, f => if 1 < m && !isB m then (if dv m f = 0 then none else (fac k (m / dv m f) (dv m f)).map (dv m f :: ·)) else some (if 1 < m then [m] else [])
theorem fac_one (k f : Nat) : fac (k + 1) 1 f = some [] := rfl
theorem fac_prime {k m f : Nat} (h : 1 < m) (hb : isB m = true) : fac (k + 1) m f = some [m] := by unfold fac; simp [h, hb]
theorem fac_gone {k m f : Nat} (h : 1 < m) (hb : isB m = false) (hd : dv m f = 0) : fac (k + 1) m f = none := by unfold fac; simp [h, hb, hd]
theorem fac_step {k m f : Nat} (h : 1 < m) (hb : isB m = false) (hd : dv m f ≠ 0) : fac (k + 1) m f = (fac k (m / dv m f) (dv m f)).map (dv m f :: ·) := by rw [fac]; simp [h, hb, hd]
def facS (n : Nat) : Option (List Nat) := fac 61 n 2
def RetFac (n : Nat) (w : World) (e : Ending) (w' : World) : Prop :=
  (∃ l v, facS n = some l ∧ e = .returned (.tuple #[v, .int .i64 0]) ∧ OI w' w.heap.size v l ∧ l.length ≤ 61 ∧ Below w.heap.size w w') ∨ (facS n = none ∧ e = .returned (.tuple #[.slice none 0 0, .int .i64 9]) ∧ Below w.heap.size w w')
set_option maxHeartbeats 4000000 in
set_option maxRecDepth 100000 in
theorem factors_any (n : Nat) (w : World) (h1 : 1 ≤ n) (hn : n ≤ 2305843009213693951) (hT : Tabs w) :
    Calls Tryd.prog 16 #[.int .i64 ((n : Nat) : Int)] w (RetFac n w) := by
  have HT := hid hT
  clear hT
  have l1 : decide (((n : Nat) : Int) < 1) = false := by simp; omega
  have l2 : decide (((n : Nat) : Int) ≥ 2305843009213693952) = false := by simp; omega
  go_enter Tryd.func16, Tryd.ntmps16
  go_wp2_with fail
  clear l1 l2
  go_loopw [0, 4, 5] (fun x l d wr => ∃ (k m f : Nat) (acc : List Nat), x = .int .i64 ((m : Nat) : Int) ∧ d = .int .i64 ((f : Nat) : Int) ∧ 1 ≤ m ∧ m ≤ 2305843009213693951 ∧ Hid (m < 2 ^ k) ∧ 2 ≤ f ∧ f ≤ 1048576 ∧ acc.length + k ≤ 61 ∧ Hid (facS n = (fac k m f).map (acc ++ ·)) ∧ OI wr w.heap.size l acc ∧ Below w.heap.size w wr) (fun x _ _ _ => (intOf x).toNat)
  case atStart => exact ⟨61, n, 2, [], by go_num, by go_num, h1, hn, (show n < 2 ^ 61 by omega), by decide, by decide, by simp, (show facS n = (fac 61 n 2).map _ by unfold facS; simp), OI.nil _ _, Below.refl _ _⟩
  case round =>
    obtain ⟨k, m, f, acc, rfl, rfl, hm1, hmn, HK, hf2, hf, hlen, HF, OD, WW⟩ := hrel
    have hk0 : 0 < k := by
      rcases Nat.eq_zero_or_pos k with h | h
      · subst h; have h := HK.out; simp at h; omega
      · exact h
    obtain ⟨k, rfl⟩ : ∃ j, k = j + 1 := ⟨k - 1, by omega⟩
    clear hk0
    by_cases hm : m = 1
    · subst hm
      have HE : Hid (facS n = some acc) := (show _ = _ by rw [HF.out, fac_one]; simp)
      have l3 : decide (((1 : Nat) : Int) > 1) = false := rfl
      clear HK HF
      go_wp2_with fail
      obtain ⟨A, c, rfl⟩ := OD.slc
      exact bodyPost_ret (v := .tuple #[.slice A acc.length c, .int .i64 0]) (by simp [results, Tryd.results16, go_sem]) rfl (.inl ⟨acc, _, HE.out, rfl, OD, by omega, WW⟩)
    · have l3 : decide (((m : Nat) : Int) > 1) = true := by simp; omega
      have HC := hid (is_any m wr (by omega) (HT.out.below WW (Nat.le_refl _)))
      cases hb : isB m
      · rw [hb] at HC
        have HB := hid hb
        clear hb
        go_wp2_with fail
        refine HC.out.mono ?_
        clear HC
        rintro e V1 ⟨rfl, hb⟩
        replace OD := OD.below hb (Nat.le_refl _)
        replace WW := WW.trans (hb.mono WW.size)
        clear hb
        go_wp2_with fail
        refine (divisor_any m f V1 (by omega) (by omega) (by omega)).mono ?_
        rintro e V2 ⟨rfl, rfl⟩
        obtain ⟨d, hd⟩ : ∃ d, d = dv m f := ⟨_, rfl⟩
        rw [← hd]
        have HD := hid hd
        clear hd
        by_cases hd0 : d = 0
        · subst hd0
          have HE : Hid (facS n = none) := (show _ = _ by rw [HF.out, fac_gone (by omega) HB.out HD.out.symm]; rfl)
          go_wp2_with fail
          exact bodyPost_ret (v := .tuple #[.slice none 0 0, .int .i64 9]) (by simp [results, Tryd.results16, go_sem]) rfl (.inr ⟨HE.out, rfl, WW⟩)
        · have l4 : (((d : Nat) : Int) == 0) = false := by simp; omega
          have hd1 : dv m f ≠ 0 := by rw [← HD.out]; exact hd0
          obtain ⟨d1, d2, d3, _⟩ := dv_spec hd1
          rw [← HD.out] at d1 d2 d3
          obtain ⟨q, hq⟩ : ∃ q, q = m / d := ⟨_, rfl⟩
          have q1 : 1 ≤ q := by rw [hq]; exact Nat.div_pos (Nat.le_of_dvd (by omega) (Nat.dvd_of_mod_eq_zero d3)) (by omega)
          have q2 : q < m := by rw [hq]; exact Nat.div_lt_self (by omega) (by omega)
          have HK2 : Hid (q < 2 ^ k) := (show q < 2 ^ k by
            have h := HK.out
            rw [Nat.pow_succ] at h
            rw [hq, Nat.div_lt_iff_lt_mul (by omega)]
            exact Nat.lt_of_lt_of_le h (Nat.mul_le_mul_left _ (by omega)))
          have HF2 : Hid (facS n = (fac k q d).map ((acc ++ [d]) ++ ·)) := (show _ = _ by
            rw [HF.out, fac_step (by omega) HB.out hd1, ← HD.out, ← hq]
            cases fac k q d <;> simp)
          have tq : Int.tdiv ((m : Nat) : Int) ((d : Nat) : Int) = ((q : Nat) : Int) := by rw [hq]; rfl
          have hz : decide (((d : Nat) : Int) = 0) = false := by simp; omega
          have hx0 : ((q : Nat) : Int) ≤ 2305843009213693951 := by omega
          clear hq hd1 d3 HF HK HD
          go_wp2_with (at_builtin; refine wp_appi rfl _ _ rfl w.heap.size V2 u4 acc d rfl OD rfl (by omega) WW.size ?_; intro v9 V9 ho hg; replace WW := OD.gbelow hg (Nat.le_refl _) WW.size WW; clear OD; have OD := ho; clear ho; clear hg)
          go_roundw
          case rel => exact ⟨k, q, d, acc ++ [d], by go_num, by go_num, q1, by omega, HK2.out, by omega, by omega, by simp; omega, HF2.out, OD, WW⟩
          case measure => simp [intOf] <;> omega
      · rw [hb] at HC
        have HE : Hid (facS n = some (acc ++ [m])) := (show _ = _ by rw [HF.out, fac_prime (by omega) hb]; rfl)
        clear hb
        go_wp2_with fail
        refine HC.out.mono ?_
        clear HC
        rintro e V1 ⟨rfl, hb⟩
        replace OD := OD.below hb (Nat.le_refl _)
        replace WW := WW.trans (hb.mono WW.size)
        clear hb
        go_wp2_with (at_builtin; refine wp_appi rfl _ _ rfl w.heap.size V1 u4 acc m rfl OD rfl (by omega) WW.size ?_; intro v9 V9 ho hg; replace WW := OD.gbelow hg (Nat.le_refl _) WW.size WW; clear OD; have OD := ho; clear ho; clear hg)
        obtain ⟨A, c, rfl⟩ := OD.slc
        exact bodyPost_ret (v := .tuple #[.slice A (acc ++ [m]).length c, .int .i64 0]) (by simp [results, Tryd.results16, go_sem]) rfl (.inl ⟨acc ++ [m], _, HE.out, rfl, OD, by simp; omega, WW⟩)
end Go.Proofs.YtomkmkjkeihodaaDoor

namespace Go.Proofs.YtomkmkjkeihodaaDoor
open Go.RowKit

open Go.Lib Go.Sort in
theorem mem_compact {zs : List Int} {x : Int} : x ∈ compact zs ↔ x ∈ zs := by
  unfold compact compactUpTo
  rw [List.mem_map]
  constructor
  · rintro ⟨j, hj, rfl⟩
    have h := List.mem_range.1 (List.mem_filter.1 hj).1
    rw [getElem!_pos zs.toArray j (by simpa using h)]
    simp
  · intro h
    obtain ⟨j, hj, rfl⟩ := List.getElem_of_mem h
    clear h
    induction j with
    | zero => exact ⟨0, by simp [keeps]; omega, by rw [getElem!_pos zs.toArray 0 (by simpa using hj)]; simp⟩
    | succ j ih =>
      by_cases hk : keeps zs.toArray (j + 1) = true
      · exact ⟨j + 1, by simp [hk]; omega, by rw [getElem!_pos zs.toArray (j + 1) (by simpa using hj)]; simp⟩
      · obtain ⟨i, h1, h2⟩ := ih (by omega)
        refine ⟨i, h1, h2.trans ?_⟩
        unfold keeps at hk
        rw [getElem!_pos zs.toArray (j + 1) (by simpa using hj), show j + 1 - 1 = j from rfl, getElem!_pos zs.toArray j (by simp; omega)] at hk
        simp at hk
        exact hk.symm
def IsInts (w : World) (v : Value) (l : List Nat) : Prop := ∃ A c, v = .slice A l.length c ∧ IN w w.heap.size A l
theorem IsInts.below {w w' : World} {v : Value} {l : List Nat} (h : IsInts w v l) (hb : Below w.heap.size w w') : IsInts w' v l := by
  obtain ⟨A, c, rfl, h2⟩ := h
  refine ⟨A, c, rfl, fun i hi => ?_⟩
  obtain ⟨ad, e, h3, h4⟩ := h2.below hb i hi
  exact ⟨ad, e, Nat.lt_of_lt_of_le h3 hb.size, h4⟩
theorem compact_any (V : World) (base : Nat) (v : Value) (l : List Nat) (hO : OI V base v l) (hb : base ≤ V.heap.size) :
    Calls Tryd.prog 59 #[v] V fun e w' => ∃ v' l2, e = .returned v' ∧ IsInts w' v' l2 ∧ l2.length ≤ l.length ∧ (∀ q, q ∈ l2 ↔ q ∈ l) ∧ Below base V w' := by
  rcases hO.blk with ⟨h1, h2⟩ | ⟨g, c, cur, h1, h2, h3, h4, h5, h6, h7⟩
  · subst h2
    rw [h1]
    refine (Tryd.slices_Compact_int_empty none 0 V).mono ?_
    rintro e w' ⟨rfl, rfl⟩
    exact ⟨_, [], rfl, ⟨none, 0, rfl, fun i hi => absurd hi (by simp)⟩, Nat.le_refl _, fun q => Iff.rfl, Below.refl _ _⟩
  · obtain ⟨zs, hzs⟩ : ∃ zs : List Int, zs = l.map Int.ofNat := ⟨_, rfl⟩
    have hzl : zs.length = l.length := by rw [hzs]; simp
    have hH : Go.Sort.Holds (Value.int .i64) V g 0 zs.toArray := by
      intro j hj
      have hj' : j < l.length := by simpa [hzl] using hj
      rw [h1] at hO
      obtain ⟨g', e, _, hc, hf⟩ := hO.cell hj'
      injection e with e
      injection e with e
      subst e
      rw [Nat.zero_add, getElem!_pos zs.toArray j hj]
      exact ⟨by rw [hc]; simp [hzs, ivl], hf⟩
    have h := Tryd.slices_Compact_int g 0 c zs V hH (by rw [hzl]; unfold maxLen at h5; omega) (by rw [hzl]; exact h4)
    rw [h1, ← hzl]
    refine h.mono ?_
    rintro e w' ⟨rfl, k, rfl⟩
    obtain ⟨ys, hys⟩ : ∃ ys, ys = Go.Lib.compact zs := ⟨_, rfl⟩
    have hle : ys.length ≤ zs.length := by
      rw [hys]; unfold Go.Lib.compact Go.Lib.compactUpTo
      rw [List.length_map]
      exact Nat.le_trans (List.length_filter_le _ _) (by simp)
    have hpos : ∀ y ∈ ys, ∃ n ∈ l, y = ((n : Nat) : Int) := by
      intro y hy
      rw [hys, mem_compact, hzs, List.mem_map] at hy
      obtain ⟨n, hn, rfl⟩ := hy
      exact ⟨n, hn, rfl⟩
    rw [← hys]
    obtain ⟨d2, hd2⟩ : ∃ d2, d2 = (ys ++ List.replicate (zs.length - ys.length) 0).toArray := ⟨_, rfl⟩
    have hd2s : d2.size = l.length := by rw [hd2]; simp; omega
    rw [← hd2]
    have hB : Blk (Go.Sort.putRow (Value.int .i64) (Go.Sort.ahead V k) g 0 d2) g 3 (Go.Sort.putCells (Value.int .i64) 0 d2 cur) := by
      unfold Blk Go.Sort.putRow Go.Sort.mapBlock Go.Sort.ahead
      show (V.heap.modify g _)[g]? = _
      rw [Array.getElem?_modify, if_pos rfl]
      unfold Blk at h3
      rw [h3]
      rfl
    have hsz : (Go.Sort.putRow (Value.int .i64) (Go.Sort.ahead V k) g 0 d2).heap.size = V.heap.size := by
      show (V.heap.modify g _).size = _
      simp
    refine ⟨_, ys.map Int.toNat, rfl, ⟨_, c, by rw [List.length_map], fun i hi => ⟨_, rfl, ?_, ?_⟩⟩, by rw [List.length_map]; exact hle, fun q => ?_, ?_⟩
    · rw [hsz]; exact h3.lt
    · rw [List.length_map] at hi
      rw [add_at, Nat.zero_add, hB.cell i, Go.Sort.putCells, Array.getElem?_mapIdx, Array.getElem?_eq_getElem (by omega), Option.map_some, if_pos ⟨by omega, by omega⟩, Nat.sub_zero, getElem!_pos d2 i (by omega)]
      obtain ⟨n, _, hn⟩ := hpos ys[i] (List.getElem_mem _)
      have e : d2[i]'(by omega) = ys[i] := by
        have : d2[i]? = ys[i]? := by rw [hd2]; simp [List.getElem?_append_left hi]
        rw [Array.getElem?_eq_getElem (by omega), List.getElem?_eq_getElem hi] at this
        exact Option.some.inj this
      rw [e]
      simp [ivl, hn]
    · rw [List.mem_map]
      constructor
      · rintro ⟨y, hy, rfl⟩
        obtain ⟨n, hn, rfl⟩ := hpos y hy
        exact hn
      · intro hq
        exact ⟨((q : Nat) : Int), by rw [hys, mem_compact, hzs, List.mem_map]; exact ⟨q, hq, rfl⟩, rfl⟩
    · refine ⟨rfl, rfl, rfl, by rw [hsz]; exact Nat.le_refl _, fun j hj => ?_⟩
      show (V.heap.modify g _)[j]? = _
      rw [Array.getElem?_modify, if_neg (by omega)]
theorem clone_any (V : World) (base : Nat) (v : Value) (l : List Nat) (hO : OI V base v l) (hl : l.length ≤ 1000000) :
    Calls Tryd.prog 60 #[v] V fun e w' => ∃ v', e = .returned v' ∧ OI w' V.heap.size v' l ∧ Below V.heap.size V w' := by
  rcases hO.blk with ⟨h1, h2⟩ | ⟨g, c, cur, h1, h2, h3, h4, h5, h6, h7⟩
  · subst h2
    rw [h1]
    refine (Tryd.slices_Clone_int_nil 0 0 V).mono ?_
    rintro e w' ⟨rfl, rfl⟩
    exact ⟨_, rfl, OI.nil _ _, Below.refl _ _⟩
  · rw [h1]
    have h := Tryd.slices_Clone_int g 0 l.length c (l.map Int.ofNat) V (by simp) (by omega) (fun j hj => by
      have hj' : j < l.length := by simpa using hj
      rw [h1] at hO
      obtain ⟨g', e, _, hc, hf⟩ := hO.cell hj'
      injection e with e
      injection e with e
      subst e
      rw [Nat.zero_add, hc]
      simp [ivl, hj'])
    refine h.mono ?_
    rintro e w' ⟨v', rfl, ho, _, hb⟩
    refine ⟨v', rfl, ?_, hb⟩
    unfold OI
    rw [List.take_of_length_le (by simp), List.map_map] at ho
    exact ho
def primB (r p : Nat) (l : List Nat) : Bool := l.all fun q => !(r ^ ((p - 1) / q) % p == 1)
theorem primB_congr {r p : Nat} {l l2 : List Nat} (h : ∀ q, q ∈ l2 ↔ q ∈ l) : primB r p l2 = primB r p l := by
  unfold primB
  rw [Bool.eq_iff_iff, List.all_eq_true, List.all_eq_true]
  exact ⟨fun h1 q hq => h1 q ((h q).2 hq), fun h1 q hq => h1 q ((h q).1 hq)⟩
set_option maxHeartbeats 4000000 in
set_option maxRecDepth 100000 in
theorem primitive_any (r p : Nat) (v : Value) (l : List Nat) (w : World) (hI : IsInts w v l) (hl : l.length ≤ 1000000) (hq : ∀ q ∈ l, 1 ≤ q ∧ q ≤ 9223372036854775807) (hr : r < p) (hp : p ≤ 9223372036854775807) :
    Calls Tryd.prog 61 #[.int .i64 ((r : Nat) : Int), .int .i64 ((p : Nat) : Int), v] w (RetB (.bool (primB r p l)) w) := by
  obtain ⟨A, c, rfl, hI⟩ := hI
  have HQ := hid hq
  have HI := hid hI
  clear hq hI
  obtain ⟨n, hn⟩ : ∃ n, n = l.length := ⟨_, rfl⟩
  rw [← hn] at hl ⊢
  have HN := hid hn
  clear hn
  have l1 : ((p : Nat) : Int) - 1 = ((p - 1 : Nat) : Int) := by omega
  obtain ⟨p1, hp1⟩ : ∃ p1, p1 = p - 1 := ⟨_, rfl⟩
  rw [← hp1] at l1
  have HP1 := hid hp1
  have p1b : p1 ≤ 9223372036854775806 := by omega
  clear hp1
  go_enter Tryd.func61, Tryd.ntmps61
  go_wp2_with fail
  go_loopw [11] (fun i wr => ∃ k : Nat, k ≤ n ∧ i = .int .i64 ((k : Nat) : Int) ∧ Below w.heap.size w wr ∧ Hid (∀ i (h : i < l.length), i < k → ¬ r ^ ((p - 1) / l[i]) % p = 1)) (fun i _ => n - (intOf i).toNat)
  case atStart => exact ⟨0, by omega, by go_num, Below.refl _ _, (show ∀ i (h : i < l.length), i < 0 → _ from fun i _ h => absurd h (by omega))⟩
  case round =>
    obtain ⟨k, hk, rfl, WW, HR⟩ := hrel
    by_cases hkn : k < n
    · have l2 : decide (((k : Nat) : Int) < ((n : Nat) : Int)) = true := by simp; omega
      have hkl : k < l.length := by rw [← HN.out]; exact hkn
      obtain ⟨ad, e, hb, hc⟩ := HI.out k hkl
      replace hc := (WW.cell (p := ad.add k) (by show (ad.add k).block < _; unfold Addr.add; split <;> exact hb)).trans hc
      obtain ⟨q1, q2⟩ := HQ.out l[k] (List.getElem_mem _)
      unfold ivl at hc
      obtain ⟨q, hq⟩ : ∃ q, q = l[k] := ⟨_, rfl⟩
      rw [← hq] at hc q1 q2
      have HQ2 := hid hq
      clear hq
      obtain ⟨x, hx⟩ : ∃ x, x = p1 / q := ⟨_, rfl⟩
      have hx1 : x ≤ p1 := by rw [hx]; exact Nat.div_le_self _ _
      have tq : Int.tdiv ((p1 : Nat) : Int) ((q : Nat) : Int) = ((x : Nat) : Int) := by rw [hx]; rfl
      have hz : decide (((q : Nat) : Int) = 0) = false := by simp; omega
      obtain ⟨y, hy⟩ : ∃ y, y = r ^ x % p := ⟨_, rfl⟩
      have HY : Hid (y = r ^ ((p - 1) / l[k]) % p) := (show y = _ by rw [hy, hx, HQ2.out, HP1.out])
      have HC := hid (ppower_any r x p wr (by omega) hr hp (by omega))
      rw [← hy] at HC
      have hy1 : y < p := by rw [hy]; exact Nat.mod_lt _ (by omega)
      clear hx hy
      subst e
      by_cases hy : y = 1
      · have l3 : (((y : Nat) : Int) == 1) = true := by simp; omega
        have HE : Hid (primB r p l = false) := (show _ = _ by
          unfold primB
          rw [List.all_eq_false]
          exact ⟨l[k], List.getElem_mem _, by rw [← HY.out, hy]; decide⟩)
        clear hy HN
        go_wp2_with fail
        refine HC.out.mono ?_
        clear HC
        rintro e V1 ⟨rfl, hb⟩
        replace WW := WW.trans (hb.mono WW.size)
        clear hb
        go_wp2_with fail
        go_ret
        exact ⟨by rw [HE.out]; rfl, WW⟩
      · have l3 : (((y : Nat) : Int) == 1) = false := by simp; omega
        have HY2 := hid hy
        clear hy
        go_wp2_with fail
        refine HC.out.mono ?_
        clear HC
        rintro e V1 ⟨rfl, hb⟩
        replace WW := WW.trans (hb.mono WW.size)
        clear hb
        go_wp2_with fail
        go_roundw
        case rel => exact ⟨k + 1, by omega, by go_num, WW, (show ∀ i (h : i < l.length), i < k + 1 → _ from fun i hi hik => by
          rcases Nat.lt_or_ge i k with h | h
          · exact HR.out i hi h
          · obtain rfl : i = k := by omega
            rw [← HY.out]; exact HY2.out)⟩
        case measure => simp [intOf] <;> omega
    · have l2 : decide (((k : Nat) : Int) < ((n : Nat) : Int)) = false := by simp; omega
      have HE : Hid (primB r p l = true) := (show _ = _ by
        unfold primB
        rw [List.all_eq_true]
        intro q hq
        obtain ⟨i, hi, rfl⟩ := List.getElem_of_mem hq
        have := HR.out i hi (by rw [← HN.out] at hi; omega)
        simpa using this)
      go_wp2_with fail
      go_ret
      exact ⟨by rw [HE.out]; rfl, WW⟩
end Go.Proofs.YtomkmkjkeihodaaDoor

namespace Go.Proofs.YtomkmkjkeihodaaDoor
open Go.RowKit

set_option maxHeartbeats 4000000 in
set_option maxRecDepth 100000 in
theorem fbelow_any (p : Nat) (w : World) (h2 : 2 ≤ p) (hp : p ≤ 2305843009213693951) (hB : isB p = true) (hT : Tabs w) :
    Calls Tryd.prog 38 #[.int .i64 ((p : Nat) : Int)] w (RetFac (p - 1) w) := by
  have HT := hid hT
  have HC := hid (is_any p w (by omega) hT)
  rw [hB] at HC
  clear hT hB
  have l1 : decide (((p : Nat) : Int) ≥ 2305843009213693952) = false := by simp; omega
  have l2 : ((p : Nat) : Int) - 1 = ((p - 1 : Nat) : Int) := by omega
  have l3 : ((p - 1 : Nat) : Int) ≤ 2305843009213693950 := by omega
  have p2 : 1 ≤ p - 1 := by omega
  have p3 : p - 1 ≤ 2305843009213693951 := by omega
  go_enter Tryd.func38, Tryd.ntmps38
  go_wp2_with fail
  refine HC.out.mono ?_
  clear HC
  rintro e V1 ⟨rfl, hb⟩
  have HC := hid (factors_any (p - 1) V1 p2 p3 (HT.out.below hb (Nat.le_refl _)))
  obtain ⟨x, hx⟩ : ∃ x, x = p - 1 := ⟨_, rfl⟩
  rw [← hx] at l2 l3 HC ⊢
  have HX := hid hx
  clear p2 p3 hx h2 hp l1
  have WW := hb
  have hbs := hb.size
  clear hb
  go_wp2_with fail
  refine HC.out.mono ?_
  clear HC
  rintro e V2 h
  rcases h with ⟨l, v, hf, rfl, ho, hl, hb⟩ | ⟨hf, rfl, hb⟩
  · have HF := hid hf
    replace ho := ho.weak hbs
    replace WW := WW.trans (hb.mono hbs)
    clear hf hb
    go_wp2_with fail
    obtain ⟨A, c, rfl⟩ := ho.slc
    exact bodyPost_ret (v := .tuple #[.slice A l.length c, .int .i64 0]) (by simp [results, Tryd.results38, go_sem]) rfl (.inl ⟨l, _, by rw [← HX.out]; exact HF.out, rfl, ho, hl, WW⟩)
  · have HF := hid hf
    replace WW := WW.trans (hb.mono hbs)
    clear hf hb
    go_wp2_with fail
    exact bodyPost_ret (v := .tuple #[.slice none 0 0, .int .i64 9]) (by simp [results, Tryd.results38, go_sem]) rfl (.inr ⟨by rw [← HX.out]; exact HF.out, rfl, WW⟩)
def RootIs (p : Nat) (l : List Nat) (r : Nat) : Prop := 1 ≤ r ∧ r < p ∧ primB r p l = true ∧ ∀ s, 1 ≤ s → s < r → primB s p l = false
theorem RootIs.unique {p r s : Nat} {l : List Nat} (h : RootIs p l r) (h' : RootIs p l s) : r = s := by
  rcases Nat.lt_trichotomy r s with h1 | h1 | h1
  · have := h'.2.2.2 r h.1 h1; rw [h.2.2.1] at this; cases this
  · exact h1
  · have := h.2.2.2 s h'.1 h1; rw [h'.2.2.1] at this; cases this
def RetRoot (p : Nat) (l : List Nat) (w : World) (e : Ending) (w' : World) : Prop := ∃ r : Nat, e = .returned (.int .i64 ((r : Nat) : Int)) ∧ RootIs p l r ∧ Below w.heap.size w w'
set_option maxHeartbeats 4000000 in
set_option maxRecDepth 100000 in
theorem root_any (p b R : Nat) (v : Value) (l : List Nat) (w : World) (hO : OI w b v l) (hl : l.length ≤ 1000000) (hq : ∀ q ∈ l, 1 ≤ q ∧ q ≤ 9223372036854775807) (hp : p ≤ 9223372036854775807) (hR : 1 ≤ R) (hRp : R < p) (hRB : primB R p l = true) :
    Calls Tryd.prog 39 #[.int .i64 ((p : Nat) : Int), v] w (RetRoot p l w) := by
  have HQ := hid hq
  have HO := hid hO
  have HRB := hid hRB
  obtain ⟨A, c, rfl⟩ := hO.slc
  clear hq hO hRB
  go_enter Tryd.func39, Tryd.ntmps39
  go_wp2_with fail
  refine (clone_any w b _ l HO.out hl).mono ?_
  rintro e V1 ⟨v1, rfl, ho, hb⟩
  have WW := hb
  clear hb HO
  obtain ⟨A1, c1, rfl⟩ := ho.slc
  have HO := hid ho
  have hbs := WW.size
  clear ho
  go_wp2_with fail
  refine (compact_any V1 w.heap.size _ l HO.out hbs).mono ?_
  rintro e V2 ⟨v2, l2, rfl, hI, hl2, hm, hb⟩
  replace WW := WW.trans hb
  have HM := hid hm
  have hl3 : l2.length ≤ 1000000 := Nat.le_trans hl2 hl
  obtain ⟨A2, c2, rfl, hI2⟩ := hI
  have HI : Hid (IsInts V2 (.slice A2 l2.length c2) l2) := ⟨A2, c2, rfl, hI2⟩
  clear hb hm HO hl2 hI2
  go_wp2_with fail
  obtain ⟨V3, hV3⟩ : ∃ x, x = V2 := ⟨_, rfl⟩
  have HV := hid hV3
  have hV := Below.refl V2.heap.size V2
  rw [← HV.out] at hV
  clear hV3
  go_loopw [6] (fun i wr => ∃ r : Nat, 1 ≤ r ∧ r ≤ R ∧ i = .int .i64 ((r : Nat) : Int) ∧ Below V2.heap.size V2 wr ∧ Hid (∀ s, 1 ≤ s → s < r → primB s p l = false)) (fun i _ => R - (intOf i).toNat)
  case atStart => exact ⟨1, by omega, by omega, by go_num, Below.refl _ _, (show ∀ s, _ from fun s h1 h2 => by omega)⟩
  case round =>
    obtain ⟨r, hr1, hrR, rfl, hW, HS⟩ := hrel
    have HC := hid (primitive_any r p _ l2 wr (HI.out.below hW) hl3 (fun q hq => HQ.out q ((HM.out q).1 hq)) (by omega) hp)
    rw [primB_congr HM.out] at HC
    cases hb : primB r p l
    · rw [hb] at HC
      have hrR2 : r ≠ R := fun e => by rw [e, HRB.out] at hb; cases hb
      have HB := hid hb
      clear hb
      go_wp2_with fail
      refine HC.out.mono ?_
      clear HC
      rintro e V4 ⟨rfl, hb⟩
      replace hW := hW.trans (hb.mono hW.size)
      clear hb
      go_wp2_with fail
      go_roundw
      case rel => exact ⟨r + 1, by omega, by omega, by go_num, hW, (show ∀ s, _ from fun s h1 h2 => by
        rcases Nat.lt_or_ge s r with h | h
        · exact HS.out s h1 h
        · obtain rfl : s = r := by omega
          exact HB.out)⟩
      case measure => simp [intOf] <;> omega
    · rw [hb] at HC
      have HB := hid hb
      clear hb
      go_wp2_with fail
      refine HC.out.mono ?_
      clear HC
      rintro e V4 ⟨rfl, hb⟩
      replace hW := hW.trans (hb.mono hW.size)
      clear hb
      go_wp2_with fail
      go_ret
      exact ⟨r, rfl, ⟨hr1, by omega, HB.out, HS.out⟩, WW.trans (hW.mono WW.size)⟩
def RetRootE (p : Nat) (l : List Nat) (w : World) (e : Ending) (w' : World) : Prop := ∃ r : Nat, e = .returned (.tuple #[.int .i64 ((r : Nat) : Int), .int .i64 0]) ∧ RootIs p l r ∧ Below w.heap.size w w'
set_option maxHeartbeats 4000000 in
set_option maxRecDepth 100000 in
theorem rootE_any (p R : Nat) (l : List Nat) (w : World) (h2 : 2 ≤ p) (hp : p ≤ 2305843009213693951) (hB : isB p = true) (hT : Tabs w) (hf : facS (p - 1) = some l) (hq : ∀ q ∈ l, 1 ≤ q ∧ q ≤ 9223372036854775807) (hR : 1 ≤ R) (hRp : R < p) (hRB : primB R p l = true) :
    Calls Tryd.prog 19 #[.int .i64 ((p : Nat) : Int)] w (RetRootE p l w) := by
  have HC := hid (fbelow_any p w h2 hp hB hT)
  have HF := hid hf
  have HQ := hid hq
  have HRB := hid hRB
  clear hB hT hf hq hRB
  go_enter Tryd.func19, Tryd.ntmps19
  go_wp2_with fail
  refine HC.out.mono ?_
  clear HC
  rintro e V1 h
  rcases h with ⟨l', v, hf, rfl, ho, hl, hb⟩ | ⟨hf, rfl, hb⟩
  · rw [HF.out] at hf
    injection hf with hf
    subst hf
    obtain ⟨A, c, rfl⟩ := ho.slc
    have HC := hid (root_any p _ R _ l V1 ho (by omega) HQ.out (by omega) hR hRp HRB.out)
    have WW := hb
    have hbs := hb.size
    clear hb ho
    go_wp2_with fail
    refine HC.out.mono ?_
    clear HC
    rintro e V2 ⟨r, rfl, hr, hb⟩
    have HR := hid hr
    have r1 : r ≤ 9223372036854775807 := by have := hr.2.1; omega
    replace WW := WW.trans (hb.mono hbs)
    clear hb hr
    go_wp2_with fail
    exact bodyPost_ret (v := .tuple #[.int .i64 ((r : Nat) : Int), .int .i64 0]) (by simp [results, Tryd.results19, go_sem]) rfl ⟨r, rfl, HR.out, WW⟩
  · rw [HF.out] at hf; cases hf
end Go.Proofs.YtomkmkjkeihodaaDoor
