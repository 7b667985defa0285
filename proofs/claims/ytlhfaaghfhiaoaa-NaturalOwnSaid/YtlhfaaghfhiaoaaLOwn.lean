/- NaturalOwn: the walk. -/
import Derived.Test.YtlhfaaghfhiaoaaEq
import Derived.Test.YtlhfaaghfhiaoaaApp
import Derived.Deep.RegionHeld3
set_option linter.unusedVariables false
set_option linter.unusedSimpArgs false
namespace Go.Proofs.Ytlhfaaghfhiaoaa
open Go.RowKit

/-- A slice of the call's own memory, from block B on, whose words are words. -/
def OwnU (w : World) (B : Nat) (A : Option Addr) (n : Nat) : Prop := 0 < n → ∃ g cs, A = some ⟨g, 0, none⟩ ∧ B ≤ g ∧ Blk w g 62 cs ∧ ∀ i, i < n → ∃ x : Nat, x < 4294967296 ∧ cs[i]? = some (.int .u32 ((x : Nat) : Int))
theorem Own.u {w : World} {B n c a : Nat} {A : Option Addr} (h : Own w B A n c a) : OwnU w B A n := fun hn => by
  obtain ⟨g, cs, e, h1, h2, h3⟩ := h.2.2.2 hn
  exact ⟨g, cs, e, h1, h2, fun i hi => ⟨_, dig_lt a i, h3 i hi⟩⟩
theorem OwnU.alloc {w : World} {B n : Nat} {A : Option Addr} (h : OwnU w B A n) (o : Obj) : OwnU (w.alloc o) B A n := fun hn => by
  obtain ⟨g, cs, e, h1, h2, h3⟩ := h hn
  exact ⟨g, cs, e, h1, h2.alloc o, h3⟩
theorem OwnU.box {w : World} {B n : Nat} {A : Option Addr} (h : OwnU w B A n) {p : Addr} {t : TypeId} {cs : Array Value} (hp : Blk w p.block t cs) (ht : t ≠ 62) (u : Value) : OwnU (w.setCell p u) B A n := fun hn => by
  obtain ⟨g, cs', e, h1, h2, h3⟩ := h hn
  exact ⟨g, cs', e, h1, h2.far (fun e => by
      subst e
      unfold Blk at h2 hp
      rw [h2] at hp
      injection hp with hp
      injection hp with _ hp
      exact ht hp.symm) u, h3⟩
theorem OwnU.set_ {w : World} {B n : Nat} {A : Option Addr} (h : OwnU w B A n) (g i y : Nat) (hy : y < 4294967296) : OwnU (w.setCell ⟨g, i, none⟩ (.int .u32 ((y : Nat) : Int))) B A n := fun hn => by
  obtain ⟨g', cs, e, h1, h2, h3⟩ := h hn
  by_cases hg : g' = g
  · subst hg
    refine ⟨g', _, e, h1, h2.set_ i _, fun k hk => ?_⟩
    obtain ⟨x, hx, hc⟩ := h3 k hk
    rw [Array.getElem?_setIfInBounds]
    split
    · split
      · exact ⟨y, hy, rfl⟩
      · rename_i h5 h6
        subst h5
        have := (Array.getElem?_eq_some_iff.1 hc).1
        exact absurd this h6
    · exact ⟨x, hx, hc⟩
  · exact ⟨g', cs, e, h1, h2.far hg _, h3⟩
theorem Blk.other {w : World} {g g2 t : Nat} {cs cs2 : Array Value} (h : Blk w g t cs) (h2 : Blk w g2 62 cs2) (ht : t ≠ 62) : g ≠ g2 := fun e => by
  subst e
  unfold Blk at h h2
  rw [h] at h2
  injection h2 with h2
  injection h2 with _ h2
  exact ht h2
/-- What the loops over the results keep. -/
def Kept (V : World) (B G : Nat) (cs7 : Array Value) (AF : Nat → Option Addr) (NF : Nat → Nat) (wr : World) : Prop :=
  Below B V wr ∧ Blk wr G 24 cs7 ∧ ∀ k, k < 7 → OwnU wr B (AF k) (NF k)
theorem Kept.alloc {V wr : World} {B G : Nat} {cs7 : Array Value} {AF : Nat → Option Addr} {NF : Nat → Nat} (h : Kept V B G cs7 AF NF wr) (hB : B ≤ V.heap.size) (o : Obj) : Kept V B G cs7 AF NF (wr.alloc o) :=
  ⟨h.1.alloc (Nat.le_trans hB h.1.size) o, h.2.1.alloc o, fun k hk => (h.2.2 k hk).alloc o⟩
theorem Kept.store {V wr : World} {B G g i y : Nat} {cs7 cs : Array Value} {AF : Nat → Option Addr} {NF : Nat → Nat} (h : Kept V B G cs7 AF NF wr) (hg : B ≤ g) (hb : Blk wr g 62 cs) (hy : y < 4294967296) :
    Kept V B G cs7 AF NF (wr.setCell ⟨g, i, none⟩ (.int .u32 ((y : Nat) : Int))) :=
  ⟨h.1.setCell hg _, h.2.1.far (h.2.1.other hb (by decide)) _, fun k hk => (h.2.2 k hk).set_ g i y hy⟩
/-- slices.Clone, with the length of what it returns. -/
def RetClone (base n a : Nat) (w : World) (e : Ending) (w' : World) : Prop := ∃ A c, e = .returned (.slice A n c) ∧ Own w' base A n c a ∧ Below w.heap.size w w'
theorem clone_n (A : Option Addr) (n c a B : Nat) (w : World) (hA : Num w B A n a) (hB : B ≤ w.heap.size) (hn : n ≤ 1000000) :
    Calls Try.prog 39 #[.slice A n c] w (RetClone w.heap.size n a w) := by
  cases A with
  | none =>
    have h0 : n = 0 := by
      rcases Nat.eq_zero_or_pos n with h | h
      · exact h
      · obtain ⟨ad, e, _⟩ := hA.2 h; cases e
    subst h0
    have ha : a = 0 := by have := hA.lt; simp at this; exact this
    subst ha
    clear hA
    have hq := fun w => Lib.run_eql_slice_nil (P := Try.prog) w 22 62 none 0 c 0 0 Try.underlying22
    go_enter Try.func39, Try.ntmps39
    go_wp2_with fail
    go_ret
    exact ⟨_, _, rfl, Own.nil _ _ _ _ (Nat.zero_le _), Below.refl _ _⟩
  | some ad =>
    obtain ⟨i0, hi0, hz0, hz1, hz2⟩ := info_parts info62
    have HA := hid (hA.alloc hB (.cells #[] 62))
    have HO := hid (OwnsV.empty w w.heap.size (Nat.le_refl _))
    clear hA
    have hq := fun w => Lib.run_eql_slice_nil (P := Try.prog) w 22 62 (some ad) n c 0 0 Try.underlying22
    go_enter Try.func39, Try.ntmps39
    go_wp2_with (at_builtin; refine wpList_append_own _ rfl _ _ 22 rfl w.heap.size 62 i0 (.int .u32 0) 1 4 Try.underlying22 hi0 hz0 hz1 hz2 rfl (by decide) (.slice (some ⟨w.heap.size, 0, none⟩) 0 0) 0 (words 0 0).toList rfl HO.out.2 ad n _ (words n a).toList rfl (words_len n a) HA.out.news (words_oneCell n a) (by unfold maxLen; omega) (by omega) (by simp) ?_; intro v1 w1 hown1 hg1 _)
    go_ret
    have h1 : OwnsV w1 w.heap.size v1 (0 + n) (a * 2 ^ (32 * 0) + 0) := OwnsV.app (k := 0) (s := 0) (by simp) HA.out.lt hown1
    rw [Nat.zero_add, Nat.add_zero, show 2 ^ (32 * 0) = 1 from rfl, Nat.mul_one] at h1
    obtain ⟨A', c', rfl, ho⟩ := h1.own
    exact ⟨_, _, rfl, ho, ((Below.refl _ _).alloc (Nat.le_refl _) _).grown hg1 (by simp) (fun k hk => Nat.le_of_eq (by simpa [Value.ownBlock] using hk))⟩

set_option maxHeartbeats 8000000 in
set_option maxRecDepth 100000 in
theorem naturalOwn_go (A B' : Option Addr) (n m c d a b : Nat) (w : World) (hA : Num w w.heap.size A n a) (hB : Num w w.heap.size B' m b) (hn1 : n ≤ 100) (hm1 : m ≤ 100) :
    Calls Try.prog 10 #[.agg #[.slice A n c], .agg #[.slice B' m d]] w (RetB (.bool true) w) := by
  have hn : n ≤ 9223372036854775807 := by omega
  have hm : m ≤ 9223372036854775807 := by omega
  have HG : Hid (decide (100 < n ∨ 100 < m) = false) := decide_eq_false (by omega)
  have HNA := hid hA
  have HNB := hid hB
  obtain ⟨s1, g1, h1⟩ : ∃ s g, bothS n a 0 0 (limS (a + 0)) = (s, g) := ⟨_, _, rfl⟩
  have E1 := hid h1
  clear h1
  obtain ⟨s2, g2, h2⟩ : ∃ s g, bothS n a 0 0 (subS a 0) = (s, g) := ⟨_, _, rfl⟩
  have E2 := hid h2
  clear h2
  obtain ⟨s3, g3, h3⟩ : ∃ s g, shiftV n a 0 = (s, g) := ⟨_, _, rfl⟩
  have E3 := hid h3
  clear h3
  obtain ⟨s6, g6, h6⟩ : ∃ s g, bothS n a m b (limS (a * b)) = (s, g) := ⟨_, _, rfl⟩
  have E6 := hid h6
  clear h6
  obtain ⟨s7, g7, h7⟩ : ∃ s g, bothS 0 0 m b (limS (0 + b)) = (s, g) := ⟨_, _, rfl⟩
  have E7 := hid h7
  clear h7
  obtain ⟨s4, s5, g4, h4⟩ : ∃ s t g, bothD n a m b (divS a b) = (s, t, g) := ⟨_, _, _, rfl⟩
  have E4 := hid h4
  clear h4
  obtain ⟨b0, b1, bw⟩ := boxes2 w (.slice A n c) (.slice B' m d)
  have XA := Box.mk b0 hA bw
  have XB := Box.mk b1 hB bw
  have WW := bw
  clear bw b0 b1
  go_enter Try.func10, Try.ntmps10
  go_wp2_with fail
  generalize hV : ((w.alloc (.cells #[.slice A n c] 24)).alloc (.cells #[.slice B' m d] 24)) = V0 at XA XB WW ⊢
  clear hV
  have hc := awake_any V0
  refine hc.mono ?_
  clear hc
  rintro e V1 ⟨rfl, hb⟩
  replace XA := XA.below hb
  replace XB := XB.below hb
  replace WW := WW.trans (hb.mono WW.size)
  have kXA := XA.cell
  have zXA := XA.lt
  have kXB := XB.cell
  have zXB := XB.lt
  clear hb
  go_wp2_with fail
  have hc := great_2 V1 A B' _ c _ d hn hm
  rw [HG.out] at hc
  refine hc.mono ?_
  clear hc
  rintro e V2 ⟨rfl, hb⟩
  clear kXA zXA kXB zXB
  replace XA := XA.below hb
  replace XB := XB.below hb
  replace WW := WW.trans (hb.mono WW.size)
  have kXA := XA.cell
  have zXA := XA.lt
  have kXB := XB.cell
  have zXB := XB.lt
  clear hb
  go_wp2_with fail
  have WDr := hid WW.drew
  have HXA_0 := hid XA.drew
  have HXB_0 := hid XB.drew
  clear zXA zXB WW XA XB
  refine wp_region_held_drew (S := (fun w' => w'.cell? ⟨w.heap.size, 0, none⟩ = some ((.slice A n c)) ∧ w'.cell? ⟨w.heap.size + 1, 0, none⟩ = some ((.slice B' m d)))) (by kernel_rfl) (⟨kXA, kXB⟩) (fun hHeld => ?_)
  refine wpAnyH_take (i := 0) (oi := { dst := some 30, op := Op.fieldAddr 24 (Operand.tmp 2) 0, type := 0, pos := "law.go:305", after := #[], guard := none }) (v := ?_) rfl (by kernel_rfl) (by kernel_rfl) (by kernel_rfl) (fun _ _ _ h => h) (Or.inl ⟨by rfl, ?_⟩) (by assumption) ?_
  rotate_left
  · (intro ws hSw; (try dsimp only at hSw); (try go_simp); (try with_reducible rfl))
  (try simp only [Act.put, List.setIfInBounds_toArray, List.set_cons_zero, List.set_cons_succ])
  refine wpAnyH_take (i := 1) (oi := { dst := some 31, op := Op.load 22 (Operand.tmp 30), type := 22, pos := "law.go:305", after := #[{ on := 0, ground := Ground.data }], guard := none }) (v := ?_) rfl (by kernel_rfl) (by kernel_rfl) (by kernel_rfl) (fun _ _ _ h => h) (Or.inl ⟨by rfl, ?_⟩) (by assumption) ?_
  rotate_left
  · (intro ws hSw; (try dsimp only at hSw); (try go_simp); (try with_reducible rfl))
  (try simp only [Act.put, List.setIfInBounds_toArray, List.set_cons_zero, List.set_cons_succ])
  refine wpAnyH_take (i := 3) (oi := { dst := some 33, op := Op.fieldAddr 24 (Operand.tmp 3) 0, type := 0, pos := "law.go:305", after := #[], guard := none }) (v := ?_) rfl (by kernel_rfl) (by kernel_rfl) (by kernel_rfl) (fun _ _ _ h => h) (Or.inl ⟨by rfl, ?_⟩) (by assumption) ?_
  rotate_left
  · (intro ws hSw; (try dsimp only at hSw); (try go_simp); (try with_reducible rfl))
  (try simp only [Act.put, List.setIfInBounds_toArray, List.set_cons_zero, List.set_cons_succ])
  refine wpAnyH_take (i := 4) (oi := { dst := some 34, op := Op.load 22 (Operand.tmp 33), type := 22, pos := "law.go:305", after := #[{ on := 3, ground := Ground.data }], guard := none }) (v := ?_) rfl (by kernel_rfl) (by kernel_rfl) (by kernel_rfl) (fun _ _ _ h => h) (Or.inl ⟨by rfl, ?_⟩) (by assumption) ?_
  rotate_left
  · (intro ws hSw; (try dsimp only at hSw); (try go_simp); (try with_reducible rfl))
  (try simp only [Act.put, List.setIfInBounds_toArray, List.set_cons_zero, List.set_cons_succ])
  refine wpAnyH_ready (rs := [2]) (by kernel_rfl) (by simp) ?_
  refine AllReadyH.cons (o := { dst := some 32, op := Op.call { callee := Callee.value (Operand.func 39), args := #[Operand.tmp 31], argTypes := #[22] }, type := 22, pos := "law.go:305", after := #[{ on := 1, ground := Ground.data }], guard := none }) rfl (fun K hK => ?_) AllReadyH.nil
  go_simp
  refine (clone_n A n c a _ V2.drew HXA_0.out.num (Nat.le_refl _) (by omega)).mono ?_
  rintro e u1 ⟨X, x, rfl, ho, hb⟩
  have HXA_1 := hid (HXA_0.out.below hb)
  have HXB_1 := hid (HXB_0.out.below hb)
  have W_1 := hid (WDr.out.trans (hb.mono WDr.out.size))
  have OX_1 := hid (ho.weak (b := w.heap.size) WDr.out.size)
  have q1 := HXA_1.out.cell
  have q2 := HXB_1.out.cell
  clear ho hb
  refine hK.out _ _ (⟨q1, q2⟩) (fun hHeld2 => ?_)
  clear hK K hHeld
  have hHeld := hHeld2
  clear hHeld2
  (try simp only [Act.put, List.setIfInBounds_toArray, List.set_cons_zero, List.set_cons_succ])
  refine wpAnyH_ready (rs := [5]) (by kernel_rfl) (by simp) ?_
  refine AllReadyH.cons (o := { dst := some 35, op := Op.call { callee := Callee.value (Operand.func 39), args := #[Operand.tmp 34], argTypes := #[22] }, type := 22, pos := "law.go:305", after := #[{ on := 4, ground := Ground.data }, { on := 2, ground := Ground.chain }], guard := none }) rfl (fun K hK => ?_) AllReadyH.nil
  go_simp
  refine (clone_n B' m d b _ u1 HXB_1.out.num (Nat.le_refl _) (by omega)).mono ?_
  rintro e u2 ⟨Y, y, rfl, ho, hb⟩
  have HXA_2 := hid (HXA_1.out.below hb)
  have HXB_2 := hid (HXB_1.out.below hb)
  have W_2 := hid (W_1.out.trans (hb.mono W_1.out.size))
  have OX_2 := hid (OX_1.out.below hb (Nat.le_refl _))
  have OY_2 := hid (ho.weak (b := w.heap.size) W_1.out.size)
  have q3 := HXA_2.out.cell
  have q4 := HXB_2.out.cell
  clear ho hb
  refine hK.out _ _ (⟨q3, q4⟩) (fun hHeld5 => ?_)
  clear hK K hHeld
  have hHeld := hHeld5
  clear hHeld5
  (try simp only [Act.put, List.setIfInBounds_toArray, List.set_cons_zero, List.set_cons_succ])
  refine wpAnyH_take (i := 6) (oi := { dst := some 5, op := Op.assign (Operand.tmp 32), type := 22, pos := "law.go:305", after := #[{ on := 2, ground := Ground.data }, { on := 5, ground := Ground.chain }, { on := 0, ground := Ground.phase }, { on := 1, ground := Ground.phase }, { on := 2, ground := Ground.phase }, { on := 3, ground := Ground.textOnly Departure.lateStores }, { on := 4, ground := Ground.textOnly Departure.lateStores }, { on := 5, ground := Ground.textOnly Departure.lateStoresUnsure }], guard := none }) (v := ?_) rfl (by kernel_rfl) (by kernel_rfl) (by kernel_rfl) (fun _ _ _ h => h) (Or.inl ⟨by rfl, ?_⟩) (by assumption) ?_
  rotate_left
  · (intro ws hSw; (try dsimp only at hSw); (try go_simp); (try with_reducible rfl))
  (try simp only [Act.put, List.setIfInBounds_toArray, List.set_cons_zero, List.set_cons_succ])
  refine wpAnyH_take (i := 7) (oi := { dst := some 6, op := Op.assign (Operand.tmp 35), type := 22, pos := "law.go:305", after := #[{ on := 5, ground := Ground.data }, { on := 6, ground := Ground.chain }, { on := 0, ground := Ground.phase }, { on := 1, ground := Ground.phase }, { on := 2, ground := Ground.phase }, { on := 3, ground := Ground.phase }, { on := 4, ground := Ground.phase }, { on := 5, ground := Ground.phase }, { on := 6, ground := Ground.phase }], guard := none }) (v := ?_) rfl (by kernel_rfl) (by kernel_rfl) (by kernel_rfl) (fun _ _ _ h => h) (Or.inl ⟨by rfl, ?_⟩) (by assumption) ?_
  rotate_left
  · (intro ws hSw; (try dsimp only at hSw); (try go_simp); (try with_reducible rfl))
  (try simp only [Act.put, List.setIfInBounds_toArray, List.set_cons_zero, List.set_cons_succ])
  refine wpAnyH_done (by kernel_rfl) ?_ _
  clear hHeld
  clear kXA kXB q1 q2 q3 q4
  have XA := HXA_2.out
  have XB := HXB_2.out
  have WW := W_2.out
  have OX := OX_2.out
  have OY := OY_2.out
  clear HXA_0 HXA_1 HXA_2 HXB_0 HXB_1 HXB_2 WDr W_1 W_2 OX_1 OX_2 OY_2
  have kXA := XA.cell
  have zXA := XA.lt
  have kXB := XB.cell
  have zXB := XB.lt
  go_wp2_with fail
  have hz' := Num.nil u2 u2.heap.size none
  obtain ⟨b0, bw⟩ := boxes1 u2 (.slice none 0 0)
  clear kXA zXA kXB zXB
  replace XA := XA.below bw
  replace XB := XB.below bw
  have X0 := Box.mk b0 hz' bw
  replace OX := OX.below bw (Nat.le_refl _)
  replace OY := OY.below bw (Nat.le_refl _)
  replace WW := WW.trans (bw.mono WW.size)
  clear bw b0 
  generalize hV : (u2.alloc (.cells #[.slice none 0 0] 24)) = V3 at XA XB X0 OX OY WW ⊢
  clear hV
  have kXA := XA.cell
  have zXA := XA.lt
  have kXB := XB.cell
  have zXB := XB.lt
  have kX0 := X0.cell
  have zX0 := X0.lt
  clear hz'
  have WB := Below.refl V3.heap.size V3
  have SXA := hid XA
  have SXB := hid XB
  have SWW := hid WW
  have SOX := hid OX
  have SOY := hid OY
  go_wp2_with fail
  have hbs : V3.heap.size ≤ V3.heap.size := WB.size
  have hc := add_any A none _ 0 c 0 a 0 V3 XA.num X0.num hn (by omega)
  rw [E1.out] at hc
  refine hc.mono ?_
  clear hc
  rintro e V4 ⟨v, rfl, hv, hb⟩
  clear kXA zXA kXB zXB kX0 zX0
  replace XA := XA.below hb
  replace XB := XB.below hb
  replace X0 := X0.below hb
  replace OX := OX.below hb (Nat.le_refl _)
  replace OY := OY.below hb (Nat.le_refl _)
  replace WB := WB.trans (hb.mono WB.size)
  replace WW := WW.trans (hb.mono WW.size)
  obtain ⟨D1, d1, rfl, ho⟩ := hv
  have hv' := ho.num
  have kXA := XA.cell
  have zXA := XA.lt
  have kXB := XB.cell
  have zXB := XB.lt
  have kX0 := X0.cell
  have zX0 := X0.lt
  clear hb
  go_wp2_with fail
  have O1 := (ho.weak (b := V3.heap.size) hbs)
  clear ho hbs
  obtain ⟨b0, bw⟩ := boxes1 V4 (.slice D1 (nw s1) d1)
  clear kXA zXA kXB zXB kX0 zX0
  replace XA := XA.below bw
  replace XB := XB.below bw
  replace X0 := X0.below bw
  have X1 := Box.mk b0 hv' bw
  replace OX := OX.below bw (Nat.le_refl _)
  replace OY := OY.below bw (Nat.le_refl _)
  replace O1 := O1.below bw (Nat.le_refl _)
  replace WB := WB.trans (bw.mono WB.size)
  replace WW := WW.trans (bw.mono WW.size)
  clear bw b0 hv'
  generalize hV : (V4.alloc (.cells #[.slice D1 (nw s1) d1] 24)) = V5 at XA XB X0 X1 OX OY O1 WB WW ⊢
  clear hV
  have kXA := XA.cell
  have zXA := XA.lt
  have kXB := XB.cell
  have zXB := XB.lt
  have kX0 := X0.cell
  have zX0 := X0.lt
  have kX1 := X1.cell
  have zX1 := X1.lt
  have hbs : V3.heap.size ≤ V5.heap.size := WB.size
  have hc := sub_any A none _ 0 c 0 a 0 V5 XA.num X0.num hn (by omega)
  rw [E2.out] at hc
  refine hc.mono ?_
  clear hc
  rintro e V6 ⟨v, rfl, hv, hb⟩
  clear kXA zXA kXB zXB kX0 zX0 kX1 zX1
  replace XA := XA.below hb
  replace XB := XB.below hb
  replace X0 := X0.below hb
  replace X1 := X1.below hb
  replace OX := OX.below hb (Nat.le_refl _)
  replace OY := OY.below hb (Nat.le_refl _)
  replace O1 := O1.below hb (Nat.le_refl _)
  replace WB := WB.trans (hb.mono WB.size)
  replace WW := WW.trans (hb.mono WW.size)
  obtain ⟨D2, d2, rfl, ho⟩ := hv
  have hv' := ho.num
  have kXA := XA.cell
  have zXA := XA.lt
  have kXB := XB.cell
  have zXB := XB.lt
  have kX0 := X0.cell
  have zX0 := X0.lt
  have kX1 := X1.cell
  have zX1 := X1.lt
  clear hb
  go_wp2_with fail
  have O2 := (ho.weak (b := V3.heap.size) hbs)
  clear ho hbs
  obtain ⟨b0, bw⟩ := boxes1 V6 (.slice D2 (nw s2) d2)
  clear kXA zXA kXB zXB kX0 zX0 kX1 zX1
  replace XA := XA.below bw
  replace XB := XB.below bw
  replace X0 := X0.below bw
  replace X1 := X1.below bw
  have X2 := Box.mk b0 hv' bw
  replace OX := OX.below bw (Nat.le_refl _)
  replace OY := OY.below bw (Nat.le_refl _)
  replace O1 := O1.below bw (Nat.le_refl _)
  replace O2 := O2.below bw (Nat.le_refl _)
  replace WB := WB.trans (bw.mono WB.size)
  replace WW := WW.trans (bw.mono WW.size)
  clear bw b0 hv'
  generalize hV : (V6.alloc (.cells #[.slice D2 (nw s2) d2] 24)) = V7 at XA XB X0 X1 X2 OX OY O1 O2 WB WW ⊢
  clear hV
  have kXA := XA.cell
  have zXA := XA.lt
  have kXB := XB.cell
  have zXB := XB.lt
  have kX0 := X0.cell
  have zX0 := X0.lt
  have kX1 := X1.cell
  have zX1 := X1.lt
  have kX2 := X2.cell
  have zX2 := X2.lt
  have hbs : V3.heap.size ≤ V7.heap.size := WB.size
  have hc := shift_any A _ c a 0 V7 XA.num hn (by omega) (by omega)
  rw [E3.out] at hc
  refine hc.mono ?_
  clear hc
  rintro e V8 ⟨v, rfl, hv, hb⟩
  clear kXA zXA kXB zXB kX0 zX0 kX1 zX1 kX2 zX2
  replace XA := XA.below hb
  replace XB := XB.below hb
  replace X0 := X0.below hb
  replace X1 := X1.below hb
  replace X2 := X2.below hb
  replace OX := OX.below hb (Nat.le_refl _)
  replace OY := OY.below hb (Nat.le_refl _)
  replace O1 := O1.below hb (Nat.le_refl _)
  replace O2 := O2.below hb (Nat.le_refl _)
  replace WB := WB.trans (hb.mono WB.size)
  replace WW := WW.trans (hb.mono WW.size)
  obtain ⟨D3, d3, rfl, ho⟩ := hv
  have hv' := ho.num
  have kXA := XA.cell
  have zXA := XA.lt
  have kXB := XB.cell
  have zXB := XB.lt
  have kX0 := X0.cell
  have zX0 := X0.lt
  have kX1 := X1.cell
  have zX1 := X1.lt
  have kX2 := X2.cell
  have zX2 := X2.lt
  clear hb
  go_wp2_with fail
  have O3 := (ho.weak (b := V3.heap.size) hbs)
  clear ho hbs
  obtain ⟨b0, bw⟩ := boxes1 V8 (.slice D3 (nw s3) d3)
  clear kXA zXA kXB zXB kX0 zX0 kX1 zX1 kX2 zX2
  replace XA := XA.below bw
  replace XB := XB.below bw
  replace X0 := X0.below bw
  replace X1 := X1.below bw
  replace X2 := X2.below bw
  have X3 := Box.mk b0 hv' bw
  replace OX := OX.below bw (Nat.le_refl _)
  replace OY := OY.below bw (Nat.le_refl _)
  replace O1 := O1.below bw (Nat.le_refl _)
  replace O2 := O2.below bw (Nat.le_refl _)
  replace O3 := O3.below bw (Nat.le_refl _)
  replace WB := WB.trans (bw.mono WB.size)
  replace WW := WW.trans (bw.mono WW.size)
  clear bw b0 hv'
  generalize hV : (V8.alloc (.cells #[.slice D3 (nw s3) d3] 24)) = V9 at XA XB X0 X1 X2 X3 OX OY O1 O2 O3 WB WW ⊢
  clear hV
  have kXA := XA.cell
  have zXA := XA.lt
  have kXB := XB.cell
  have zXB := XB.lt
  have kX0 := X0.cell
  have zX0 := X0.lt
  have kX1 := X1.cell
  have zX1 := X1.lt
  have kX2 := X2.cell
  have zX2 := X2.lt
  have kX3 := X3.cell
  have zX3 := X3.lt
  have hbs : V3.heap.size ≤ V9.heap.size := WB.size
  have hc := div_any A B' _ _ c d a b V9 XA.num XB.num hn hm
  rw [E4.out] at hc
  refine hc.mono ?_
  clear hc
  rintro e V10 ⟨v, u', rfl, hv, hu, hb⟩
  clear kXA zXA kXB zXB kX0 zX0 kX1 zX1 kX2 zX2 kX3 zX3
  replace XA := XA.below hb
  replace XB := XB.below hb
  replace X0 := X0.below hb
  replace X1 := X1.below hb
  replace X2 := X2.below hb
  replace X3 := X3.below hb
  replace OX := OX.below hb (Nat.le_refl _)
  replace OY := OY.below hb (Nat.le_refl _)
  replace O1 := O1.below hb (Nat.le_refl _)
  replace O2 := O2.below hb (Nat.le_refl _)
  replace O3 := O3.below hb (Nat.le_refl _)
  replace WB := WB.trans (hb.mono WB.size)
  replace WW := WW.trans (hb.mono WW.size)
  obtain ⟨D4, d4, rfl, ho⟩ := hv
  have hv' := ho.num
  obtain ⟨D5, d5, rfl, ho'⟩ := hu
  have hu' := ho'.num
  have kXA := XA.cell
  have zXA := XA.lt
  have kXB := XB.cell
  have zXB := XB.lt
  have kX0 := X0.cell
  have zX0 := X0.lt
  have kX1 := X1.cell
  have zX1 := X1.lt
  have kX2 := X2.cell
  have zX2 := X2.lt
  have kX3 := X3.cell
  have zX3 := X3.lt
  clear hb
  go_wp2_with fail
  have O4 := (ho.weak (b := V3.heap.size) hbs)
  have O5 := (ho'.weak (b := V3.heap.size) hbs)
  clear ho ho' hbs
  obtain ⟨b0, b1, bw⟩ := boxes2 V10 (.slice D4 (nw s4) d4) (.slice D5 (nw s5) d5)
  clear kXA zXA kXB zXB kX0 zX0 kX1 zX1 kX2 zX2 kX3 zX3
  replace XA := XA.below bw
  replace XB := XB.below bw
  replace X0 := X0.below bw
  replace X1 := X1.below bw
  replace X2 := X2.below bw
  replace X3 := X3.below bw
  have X4 := Box.mk b0 hv' bw
  have X5 := Box.mk b1 hu' bw
  replace OX := OX.below bw (Nat.le_refl _)
  replace OY := OY.below bw (Nat.le_refl _)
  replace O1 := O1.below bw (Nat.le_refl _)
  replace O2 := O2.below bw (Nat.le_refl _)
  replace O3 := O3.below bw (Nat.le_refl _)
  replace O4 := O4.below bw (Nat.le_refl _)
  replace O5 := O5.below bw (Nat.le_refl _)
  replace WB := WB.trans (bw.mono WB.size)
  replace WW := WW.trans (bw.mono WW.size)
  clear bw b0 b1 hv' hu'
  generalize hV : ((V10.alloc (.cells #[.slice D4 (nw s4) d4] 24)).alloc (.cells #[.slice D5 (nw s5) d5] 24)) = V11 at XA XB X0 X1 X2 X3 X4 X5 OX OY O1 O2 O3 O4 O5 WB WW ⊢
  clear hV
  have kXA := XA.cell
  have zXA := XA.lt
  have kXB := XB.cell
  have zXB := XB.lt
  have kX0 := X0.cell
  have zX0 := X0.lt
  have kX1 := X1.cell
  have zX1 := X1.lt
  have kX2 := X2.cell
  have zX2 := X2.lt
  have kX3 := X3.cell
  have zX3 := X3.lt
  have kX4 := X4.cell
  have zX4 := X4.lt
  have kX5 := X5.cell
  have zX5 := X5.lt
  have hbs : V3.heap.size ≤ V11.heap.size := WB.size
  have hc := mul_any A B' _ _ c d a b V11 XA.num XB.num hn hm
  rw [E6.out] at hc
  refine hc.mono ?_
  clear hc
  rintro e V12 ⟨v, rfl, hv, hb⟩
  clear kXA zXA kXB zXB kX0 zX0 kX1 zX1 kX2 zX2 kX3 zX3 kX4 zX4 kX5 zX5
  replace XA := XA.below hb
  replace XB := XB.below hb
  replace X0 := X0.below hb
  replace X1 := X1.below hb
  replace X2 := X2.below hb
  replace X3 := X3.below hb
  replace X4 := X4.below hb
  replace X5 := X5.below hb
  replace OX := OX.below hb (Nat.le_refl _)
  replace OY := OY.below hb (Nat.le_refl _)
  replace O1 := O1.below hb (Nat.le_refl _)
  replace O2 := O2.below hb (Nat.le_refl _)
  replace O3 := O3.below hb (Nat.le_refl _)
  replace O4 := O4.below hb (Nat.le_refl _)
  replace O5 := O5.below hb (Nat.le_refl _)
  replace WB := WB.trans (hb.mono WB.size)
  replace WW := WW.trans (hb.mono WW.size)
  obtain ⟨D6, d6, rfl, ho⟩ := hv
  have hv' := ho.num
  have kXA := XA.cell
  have zXA := XA.lt
  have kXB := XB.cell
  have zXB := XB.lt
  have kX0 := X0.cell
  have zX0 := X0.lt
  have kX1 := X1.cell
  have zX1 := X1.lt
  have kX2 := X2.cell
  have zX2 := X2.lt
  have kX3 := X3.cell
  have zX3 := X3.lt
  have kX4 := X4.cell
  have zX4 := X4.lt
  have kX5 := X5.cell
  have zX5 := X5.lt
  clear hb
  go_wp2_with fail
  have O6 := (ho.weak (b := V3.heap.size) hbs)
  clear ho hbs
  obtain ⟨b0, bw⟩ := boxes1 V12 (.slice D6 (nw s6) d6)
  clear kXA zXA kXB zXB kX0 zX0 kX1 zX1 kX2 zX2 kX3 zX3 kX4 zX4 kX5 zX5
  replace XA := XA.below bw
  replace XB := XB.below bw
  replace X0 := X0.below bw
  replace X1 := X1.below bw
  replace X2 := X2.below bw
  replace X3 := X3.below bw
  replace X4 := X4.below bw
  replace X5 := X5.below bw
  have X6 := Box.mk b0 hv' bw
  replace OX := OX.below bw (Nat.le_refl _)
  replace OY := OY.below bw (Nat.le_refl _)
  replace O1 := O1.below bw (Nat.le_refl _)
  replace O2 := O2.below bw (Nat.le_refl _)
  replace O3 := O3.below bw (Nat.le_refl _)
  replace O4 := O4.below bw (Nat.le_refl _)
  replace O5 := O5.below bw (Nat.le_refl _)
  replace O6 := O6.below bw (Nat.le_refl _)
  replace WB := WB.trans (bw.mono WB.size)
  replace WW := WW.trans (bw.mono WW.size)
  clear bw b0 hv'
  generalize hV : (V12.alloc (.cells #[.slice D6 (nw s6) d6] 24)) = V13 at XA XB X0 X1 X2 X3 X4 X5 X6 OX OY O1 O2 O3 O4 O5 O6 WB WW ⊢
  clear hV
  have kXA := XA.cell
  have zXA := XA.lt
  have kXB := XB.cell
  have zXB := XB.lt
  have kX0 := X0.cell
  have zX0 := X0.lt
  have kX1 := X1.cell
  have zX1 := X1.lt
  have kX2 := X2.cell
  have zX2 := X2.lt
  have kX3 := X3.cell
  have zX3 := X3.lt
  have kX4 := X4.cell
  have zX4 := X4.lt
  have kX5 := X5.cell
  have zX5 := X5.lt
  have kX6 := X6.cell
  have zX6 := X6.lt
  have hbs : V3.heap.size ≤ V13.heap.size := WB.size
  have hc := add_any none B' 0 _ 0 d 0 b V13 X0.num XB.num (by omega) hm
  rw [E7.out] at hc
  refine hc.mono ?_
  clear hc
  rintro e V14 ⟨v, rfl, hv, hb⟩
  clear kXA zXA kXB zXB kX0 zX0 kX1 zX1 kX2 zX2 kX3 zX3 kX4 zX4 kX5 zX5 kX6 zX6
  replace XA := XA.below hb
  replace XB := XB.below hb
  replace X0 := X0.below hb
  replace X1 := X1.below hb
  replace X2 := X2.below hb
  replace X3 := X3.below hb
  replace X4 := X4.below hb
  replace X5 := X5.below hb
  replace X6 := X6.below hb
  replace OX := OX.below hb (Nat.le_refl _)
  replace OY := OY.below hb (Nat.le_refl _)
  replace O1 := O1.below hb (Nat.le_refl _)
  replace O2 := O2.below hb (Nat.le_refl _)
  replace O3 := O3.below hb (Nat.le_refl _)
  replace O4 := O4.below hb (Nat.le_refl _)
  replace O5 := O5.below hb (Nat.le_refl _)
  replace O6 := O6.below hb (Nat.le_refl _)
  replace WB := WB.trans (hb.mono WB.size)
  replace WW := WW.trans (hb.mono WW.size)
  obtain ⟨D7, d7, rfl, ho⟩ := hv
  have hv' := ho.num
  have kXA := XA.cell
  have zXA := XA.lt
  have kXB := XB.cell
  have zXB := XB.lt
  have kX0 := X0.cell
  have zX0 := X0.lt
  have kX1 := X1.cell
  have zX1 := X1.lt
  have kX2 := X2.cell
  have zX2 := X2.lt
  have kX3 := X3.cell
  have zX3 := X3.lt
  have kX4 := X4.cell
  have zX4 := X4.lt
  have kX5 := X5.cell
  have zX5 := X5.lt
  have kX6 := X6.cell
  have zX6 := X6.lt
  clear hb
  go_wp2_with fail
  have hVS : (V14.alloc (.cells #[.slice D7 (nw s7) d7] 24)).heap.size = V14.heap.size + 1 := by simp
  have O7 := (ho.weak (b := V3.heap.size) hbs)
  clear ho hbs
  obtain ⟨b0, bw⟩ := boxes1 V14 (.slice D7 (nw s7) d7)
  clear kXA zXA kXB zXB kX0 zX0 kX1 zX1 kX2 zX2 kX3 zX3 kX4 zX4 kX5 zX5 kX6 zX6
  replace XA := XA.below bw
  replace XB := XB.below bw
  replace X0 := X0.below bw
  replace X1 := X1.below bw
  replace X2 := X2.below bw
  replace X3 := X3.below bw
  replace X4 := X4.below bw
  replace X5 := X5.below bw
  replace X6 := X6.below bw
  have X7 := Box.mk b0 hv' bw
  replace OX := OX.below bw (Nat.le_refl _)
  replace OY := OY.below bw (Nat.le_refl _)
  replace O1 := O1.below bw (Nat.le_refl _)
  replace O2 := O2.below bw (Nat.le_refl _)
  replace O3 := O3.below bw (Nat.le_refl _)
  replace O4 := O4.below bw (Nat.le_refl _)
  replace O5 := O5.below bw (Nat.le_refl _)
  replace O6 := O6.below bw (Nat.le_refl _)
  replace O7 := O7.below bw (Nat.le_refl _)
  replace WB := WB.trans (bw.mono WB.size)
  replace WW := WW.trans (bw.mono WW.size)
  clear bw b0 hv'
  generalize hV : (V14.alloc (.cells #[.slice D7 (nw s7) d7] 24)) = V15 at XA XB X0 X1 X2 X3 X4 X5 X6 X7 OX OY O1 O2 O3 O4 O5 O6 O7 WB hVS WW ⊢
  clear hV
  have kXA := XA.cell
  have zXA := XA.lt
  have kXB := XB.cell
  have zXB := XB.lt
  have kX0 := X0.cell
  have zX0 := X0.lt
  have kX1 := X1.cell
  have zX1 := X1.lt
  have kX2 := X2.cell
  have zX2 := X2.lt
  have kX3 := X3.cell
  have zX3 := X3.lt
  have kX4 := X4.cell
  have zX4 := X4.lt
  have kX5 := X5.cell
  have zX5 := X5.lt
  have kX6 := X6.cell
  have zX6 := X6.lt
  have kX7 := X7.cell
  have zX7 := X7.lt
  clear E1 E2 E3 E4 E6 E7
  obtain ⟨cs7, hcs7⟩ : ∃ cs7 : Array Value, cs7 = #[.slice D1 (nw s1) d1, .slice D2 (nw s2) d2, .slice D3 (nw s3) d3, .slice D4 (nw s4) d4, .slice D5 (nw s5) d5, .slice D6 (nw s6) d6, .slice D7 (nw s7) d7] := ⟨_, rfl⟩
  obtain ⟨AF, NF, CF, h7⟩ : ∃ (AF : Nat → Option Addr) (NF CF : Nat → Nat), ∀ k, k < 7 → cs7[k]? = some (.slice (AF k) (NF k) (CF k)) ∧ OwnU V15 V3.heap.size (AF k) (NF k) ∧ NF k ≤ maxLen :=
    ⟨fun k => [D1, D2, D3, D4, D5, D6, D7].getD k none, fun k => [nw s1, nw s2, nw s3, nw s4, nw s5, nw s6, nw s7].getD k 0, fun k => [d1, d2, d3, d4, d5, d6, d7].getD k 0, fun k hk => by
      have h : k = 0 ∨ k = 1 ∨ k = 2 ∨ k = 3 ∨ k = 4 ∨ k = 5 ∨ k = 6 := by omega
      rw [hcs7]
      rcases h with rfl | rfl | rfl | rfl | rfl | rfl | rfl
      · exact ⟨rfl, O1.u, Nat.le_trans O1.2.1 O1.2.2.1⟩
      · exact ⟨rfl, O2.u, Nat.le_trans O2.2.1 O2.2.2.1⟩
      · exact ⟨rfl, O3.u, Nat.le_trans O3.2.1 O3.2.2.1⟩
      · exact ⟨rfl, O4.u, Nat.le_trans O4.2.1 O4.2.2.1⟩
      · exact ⟨rfl, O5.u, Nat.le_trans O5.2.1 O5.2.2.1⟩
      · exact ⟨rfl, O6.u, Nat.le_trans O6.2.1 O6.2.2.1⟩
      · exact ⟨rfl, O7.u, Nat.le_trans O7.2.1 O7.2.2.1⟩⟩
  have HK : Hid (Kept V3 V3.heap.size V15.heap.size cs7 AF NF (V15.alloc (.cells cs7 24))) := (show Kept V3 V3.heap.size V15.heap.size cs7 AF NF (V15.alloc (.cells cs7 24)) from ⟨WB.alloc WB.size _, Blk.new _ _ _, fun k hk => (h7 k hk).2.1.alloc _⟩)
  have H7 := hid (show ∀ k, k < 7 → cs7[k]? = some (.slice (AF k) (NF k) (CF k)) ∧ NF k ≤ maxLen from fun k hk => ⟨(h7 k hk).1, (h7 k hk).2.2⟩)
  clear h7 O1 O2 O3 O4 O5 O6 O7 OX OY WB
  go_wp2_with fail
  rw [← hcs7]
  rw [hVS] at HK
  obtain ⟨G, hG⟩ : ∃ G, G = V14.heap.size + 1 := ⟨_, rfl⟩
  rw [← hG] at HK ⊢
  generalize hW : V15.alloc (.cells cs7 24) = W at HK ⊢
  clear hW hG hVS hcs7 WW kXA zXA kXB zXB kX0 zX0 kX1 zX1 kX2 zX2 kX3 zX3 kX4 zX4 kX5 zX5 kX6 zX6 kX7 zX7 XA XB X0 X1 X2 X3 X4 X5 X6 X7
  go_loopw [82] (fun i wr => ∃ k : Nat, k ≤ 7 ∧ i = .int .i64 k ∧ Kept V3 V3.heap.size G cs7 AF NF wr) (fun i _ => 7 - (intOf i).toNat)
  case atStart => exact ⟨0, by omega, rfl, HK.out⟩
  case round =>
    obtain ⟨k, hk, rfl, hK⟩ := hrel
    have HKw := hid hK
    clear HK
    by_cases hlt : k < 7
    · have l1 : (k : Int) < 7 := by omega
      obtain ⟨hc0, hmx⟩ := H7.out k hlt
      unfold maxLen at hmx
      obtain ⟨A0, hA0⟩ : ∃ A0, A0 = AF k := ⟨_, rfl⟩
      obtain ⟨N0, hN0⟩ : ∃ N0, N0 = NF k := ⟨_, rfl⟩
      obtain ⟨C0, hC0⟩ : ∃ C0, C0 = CF k := ⟨_, rfl⟩
      rw [← hA0, ← hN0, ← hC0] at hc0
      rw [← hN0] at hmx
      have HA0 := hid hA0
      have HN0 := hid hN0
      have hcell := (hK.2.1.cell k).trans hc0
      clear hc0 hA0 hN0 hC0 hK
      go_wp2_with fail
      have HKa := hid (HKw.out.alloc (Nat.le_refl _) (.cells #[.slice A0 N0 C0] 24))
      have HBa := hid (Blk.new wr 24 #[.slice A0 N0 C0])
      obtain ⟨H, hH⟩ : ∃ H, H = wr.heap.size := ⟨_, rfl⟩
      rw [← hH] at HBa ⊢
      generalize hW2 : wr.alloc (.cells #[.slice A0 N0 C0] 24) = W2 at HKa HBa ⊢
      clear hW2 hH hcell HKw
      go_loopw [89] (fun i wz => ∃ j : Nat, j ≤ N0 ∧ i = .int .i64 j ∧ Kept V3 V3.heap.size G cs7 AF NF wz ∧ Blk wz H 24 #[.slice A0 N0 C0]) (fun i _ => N0 - (intOf i).toNat)
      case atStart => exact ⟨0, by omega, rfl, HKa.out, HBa.out⟩
      case round =>
        obtain ⟨j, hj, rfl, hK, hB⟩ := hrel
        have HKz := hid hK
        have HBz := hid hB
        have kH := hB.cell0
        clear HKa HBa
        by_cases hjl : j < N0
        · have l2 : (j : Int) < (N0 : Int) := by omega
          obtain ⟨g, cs, e, hg, hb62, hxs⟩ := hK.2.2 k hlt (by rw [← HN0.out]; omega)
          rw [← HA0.out] at e
          obtain ⟨x, hx, hxc⟩ := hxs j (by rw [← HN0.out]; omega)
          have HB62 := hid hb62
          have HG2 := hid hg
          have hcj := (hb62.cell j).trans hxc
          have hfj := hb62.frozen j
          obtain ⟨y, hy⟩ : ∃ y : Nat, y = (x + 1) % 4294967296 := ⟨_, rfl⟩
          have hy1 : y < 4294967296 := by omega
          have x1 : IntKind.u32.wrap ((x : Int) + 1) = (y : Int) := by rw [IntKind.wrap_u32]; omega
          have j1 : IntKind.i64.wrap ((j : Int) + 1) = ((j + 1 : Nat) : Int) := by rw [IntWalk.i64_in _ (by omega)]; omega
          have hHg := hB.other hb62 (by decide)
          clear hy hg hb62 hxs hxc hK hB
          subst e
          go_wp2_with fail
          go_roundw
          case rel => exact ⟨j + 1, by omega, by go_num, HKz.out.store HG2.out HB62.out hy1, HBz.out.far (by simpa using hHg) _⟩
          case measure => simp [intOf] <;> omega
        · have l2 : (N0 : Int) ≤ (j : Int) := by omega
          clear hK hB
          go_wp2_with fail
          go_roundw
          case rel => exact ⟨k + 1, by omega, by go_num, HKz.out⟩
          case measure => simp [intOf] <;> omega
    · obtain rfl : k = 7 := by omega
      have HXA9 := hid (SXA.out.below hK.1)
      have HXB9 := hid (SXB.out.below hK.1)
      have kA := HXA9.out.cell
      have kB := HXB9.out.cell
      have W9 := hid (SWW.out.trans (hK.1.mono SWW.out.size))
      have OX9 := hid (SOX.out.below hK.1 (Nat.le_refl _))
      have OY9 := hid (SOY.out.below hK.1 (Nat.le_refl _))
      have HE1 := hid (equal_any A X n n c x a a wr.heap.size wr HXA9.out.num OX9.out.num hn hn)
      clear hK hlt
      go_wp2_with fail
      have hc := HE1.out
      rw [sameB_yes] at hc
      refine hc.mono ?_
      clear hc
      rintro e w8 ⟨rfl, nn, rfl⟩
      go_wp2_with fail
      have hc := equal_any B' Y m m d y b b wr.heap.size (wr.drewN nn) (HXB9.out.num.drewN nn) (OY9.out.num.drewN nn) hm hm
      rw [sameB_yes] at hc
      refine hc.mono ?_
      clear hc
      rintro e w7 ⟨rfl, n2, rfl⟩
      go_wp2_with fail
      go_ret
      exact ⟨rfl, below_drewN W9.out _⟩

theorem naturalOwn_walk (A B' : Option Addr) (n m c d a b : Nat) (w : World) (hA : Num w w.heap.size A n a) (hB : Num w w.heap.size B' m b) (hn : n ≤ 9223372036854775807) (hm : m ≤ 9223372036854775807) :
    Calls Try.prog 10 #[.agg #[.slice A n c], .agg #[.slice B' m d]] w (RetB (.bool true) w) := by
  by_cases hg : 100 < n ∨ 100 < m
  · have HG := hid (decide_eq_true hg)
    clear hg
    obtain ⟨b0, b1, bw⟩ := boxes2 w (.slice A n c) (.slice B' m d)
    have XA := Box.mk b0 hA bw
    have XB := Box.mk b1 hB bw
    have WW := bw
    clear bw b0 b1
    go_enter Try.func10, Try.ntmps10
    go_wp2_with fail
    generalize hV : ((w.alloc (.cells #[.slice A n c] 24)).alloc (.cells #[.slice B' m d] 24)) = V0 at XA XB WW ⊢
    clear hV
    have hc := awake_any V0
    refine hc.mono ?_
    clear hc
    rintro e V1 ⟨rfl, hb⟩
    replace XA := XA.below hb
    replace XB := XB.below hb
    replace WW := WW.trans (hb.mono WW.size)
    have kXA := XA.cell
    have zXA := XA.lt
    have kXB := XB.cell
    have zXB := XB.lt
    clear hb
    go_wp2_with fail
    have hc := great_2 V1 A B' _ c _ d hn hm
    rw [HG.out] at hc
    refine hc.mono ?_
    clear hc
    rintro e V2 ⟨rfl, hb⟩
    clear kXA zXA kXB zXB
    replace XA := XA.below hb
    replace XB := XB.below hb
    replace WW := WW.trans (hb.mono WW.size)
    have kXA := XA.cell
    have zXA := XA.lt
    have kXB := XB.cell
    have zXB := XB.lt
    clear hb
    go_wp2_with fail
    go_ret
    exact ⟨rfl, WW⟩
  · exact naturalOwn_go A B' n m c d a b w hA hB (by omega) (by omega)

end Go.Proofs.Ytlhfaaghfhiaoaa
