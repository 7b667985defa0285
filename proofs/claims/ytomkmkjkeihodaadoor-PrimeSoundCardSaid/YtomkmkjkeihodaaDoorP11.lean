/- prime.isOne. -/
import Derived.Test.YtomkmkjkeihodaaDoorP10
set_option linter.unusedVariables false
set_option linter.unusedSimpArgs false
namespace Go.Proofs.YtomkmkjkeihodaaDoor
open Go.RowKit

def oq82_2_0 : Oper := { dst := some 16, op := Op.load 37 (Operand.tmp 5), type := 37, pos := "certificate.go:112", after := #[], guard := none }
def oq82_2_1 : Oper := { dst := some 17, op := Op.call { callee := Callee.value (Operand.func 41), args := #[Operand.const (Value.int IntKind.i64 1)], argTypes := #[3] }, type := 37, pos := "certificate.go:112", after := #[], guard := none }
def oq82_2_2 : Oper := { dst := some 18, op := Op.call { callee := Callee.value (Operand.func 79), args := #[Operand.tmp 16, Operand.tmp 17], argTypes := #[37, 37] }, type := 3, pos := "certificate.go:112", after := #[{ on := 0, ground := Ground.data }, { on := 1, ground := Ground.data }, { on := 1, ground := Ground.chain }], guard := none }
def oq82_2_3 : Oper := { dst := some 19, op := Op.binOp BinOp.eql 3 (Operand.tmp 18) (Operand.const (Value.int IntKind.i64 0)) 3, type := 4, pos := "certificate.go:112", after := #[{ on := 2, ground := Ground.data }], guard := none }
def oq82_2_4 : Oper := { dst := some 4, op := Op.assign (Operand.tmp 19), type := 4, pos := "certificate.go:112", after := #[{ on := 3, ground := Ground.data }, { on := 2, ground := Ground.chain }, { on := 0, ground := Ground.phase }, { on := 1, ground := Ground.phase }, { on := 2, ground := Ground.phase }, { on := 3, ground := Ground.phase }], guard := none }
theorem modB_nw {m : Nat} (h0 : 0 < m) (h : nw m ≤ 32) : modB (nw m) m = true := by
  have h2 := nw_pos (a := m) (by omega)
  unfold modB
  rw [okB_yes.2 ⟨rfl, by omega⟩]
  simp
  omega
theorem boxc1 (w : World) (x y z u : Value) : Blk ((w.alloc (.cells #[x, y, z] 40)).alloc (.cells #[u] 37)) w.heap.size 40 #[x, y, z] ∧ Blk ((w.alloc (.cells #[x, y, z] 40)).alloc (.cells #[u] 37)) (w.heap.size + 1) 37 #[u] ∧ Below w.heap.size w ((w.alloc (.cells #[x, y, z] 40)).alloc (.cells #[u] 37)) := by
  obtain ⟨h1, h2⟩ := box3 w x y z
  have e : (w.alloc (.cells #[x, y, z] 40)).heap.size = w.heap.size + 1 := by simp
  exact ⟨h1.alloc _, by rw [← e]; exact Blk.new _ _ _, h2.alloc (by omega) _⟩
set_option maxHeartbeats 4000000 in
set_option maxRecDepth 100000 in
theorem isone_any (A A' P E : Option Addr) (c d k ex f a b e : Nat) (w : World) (hA : Num w w.heap.size A (nw a) a) (hB : Num w w.heap.size A' (nw b) b) (hE : Num w w.heap.size E (nw e) e) (ha : nw a ≤ 32) (hba : b < a) (he : nw e ≤ 64) :
    Calls Tryd.prog 82 #[.agg #[.slice A (nw a) c, .slice A' (nw b) d, .slice P k ex], .agg #[.slice E (nw e) f]] w (RetB (.bool (b ^ e % a == 1)) w) := by
  have hb32 : nw b ≤ 32 := Nat.le_trans (nw_mono (Nat.le_of_lt hba)) ha
  have K2 : Hid (okB (nw 1) 1 = true) := okB_nw (a := 1) (by decide)
  obtain ⟨x, hx⟩ : ∃ x, x = b ^ e % a := ⟨_, rfl⟩
  have HX := hid hx
  have hxa : x < a := by rw [hx]; exact Nat.mod_lt _ (by omega)
  have nx : nw x ≤ 32 := Nat.le_trans (nw_mono (Nat.le_of_lt hxa)) ha
  have K1 := hid (okB_nw (a := x) (by omega))
  have HP : Hid (powV (nw b) b (nw e) e (nw a) a = (x, 0)) := (show _ = _ by
    have h2 : chkS (nw b) b 0 0 (nw a) a = 0 := by
      have h1 : modB (nw a) a = true := modB_nw (by omega) ha
      unfold chkS
      rw [okB_nw (a := b) (by omega), h1, show okB 0 0 = true from by decide]
      simp [hba]; omega
    rw [powV_yes (okB_nw he), h2, modS_ok, hx])
  rw [← hx]
  obtain ⟨ob, hob⟩ : ∃ ob, ob = ordN x 1 := ⟨_, rfl⟩
  have OD := hid hob
  obtain ⟨bv, hbv⟩ : ∃ bv, bv = (x == 1) := ⟨_, rfl⟩
  have HBV := hid hbv
  rw [← hbv]
  have l1 : (ob == 0) = bv := by rw [hob, hbv, Bool.eq_iff_iff]; simp [ordN_zero]
  have o1 := ordN_bd x 1
  rw [← hob] at o1
  clear hob hbv hx hxa
  obtain ⟨hC, b0, bw⟩ := boxc1 w (.slice A (nw a) c) (.slice A' (nw b) d) (.slice P k ex) (.slice E (nw e) f)
  obtain ⟨_, bw1⟩ := box3 w (.slice A (nw a) c) (.slice A' (nw b) d) (.slice P k ex)
  have XC := hC
  have XE : VB w.heap.size _ (w.heap.size + 1) E (nw e) f e := ⟨b0, .inl (hE.below bw), by omega⟩
  replace hA := hA.below bw
  replace hB := hB.below bw
  have WW := bw
  clear bw bw1 b0 hC hE
  go_enter Tryd.func82, Tryd.ntmps82
  go_wp2_with fail
  generalize hV : (w.alloc (.cells #[.slice A (nw a) c, .slice A' (nw b) d, .slice P k ex] 40)).alloc (.cells #[.slice E (nw e) f] 37) = V0 at XC XE hA hB WW ⊢
  clear hV
  replace hA := hA.more WW.size
  replace hB := hB.more WW.size
  have kXE := XE.cell
  have zXE := XE.lt
  have kXC0 := (XC.cell 0).trans rfl
  have kXC1 := (XC.cell 1).trans rfl
  have kXC2 := (XC.cell 2).trans rfl
  have zXC := XC.lt
  go_wp2_with fail
  have hbs : w.heap.size ≤ V0.heap.size := WW.size
  have hc := npow_any A' E A _ _ _ d f c b e a V0 hB XE.num hA (by omega) (by omega) (by omega)
  rw [HP.out] at hc
  refine hc.mono ?_
  clear hc
  rintro e V1 ⟨v, rfl, hv, hb⟩
  clear kXE zXE kXC0 kXC1 kXC2 zXC
  replace XE := XE.below hb
  replace XC := XC.below hb XC.lt
  replace WW := WW.trans (hb.mono WW.size)
  obtain ⟨D1, d1, rfl, ho⟩ := hv
  have O1 := ho.weak (b := w.heap.size) hbs
  clear ho
  have kXE := XE.cell
  have zXE := XE.lt
  have kXC0 := (XC.cell 0).trans rfl
  have kXC1 := (XC.cell 1).trans rfl
  have kXC2 := (XC.cell 2).trans rfl
  have zXC := XC.lt
  clear hb hbs
  go_wp2_with fail
  obtain ⟨b0, bw⟩ := boxes1 V1 (.slice D1 (nw x) d1)
  have hbs := WW.size
  clear kXE zXE kXC0 kXC1 kXC2 zXC
  have qXE2 := XE.lt
  have qXC2 := XC.lt
  have X5 := VB.mk (B := w.heap.size) (a := x) b0 (.inr O1) bw hbs (by omega)
  replace XE := XE.below bw
  replace O1 := O1.below bw (Nat.le_refl _)
  replace XC := XC.below bw XC.lt
  replace WW := WW.trans (bw.mono WW.size)
  clear bw hbs b0
  generalize hV : (V1.alloc (.cells #[.slice D1 (nw x) d1] 37)) = V2 at XE X5 O1 XC WW ⊢
  clear hV
  have kXE := XE.cell
  have zXE := XE.lt
  have kX5 := X5.cell
  have zX5 := X5.lt
  have kXC0 := (XC.cell 0).trans rfl
  have kXC1 := (XC.cell 1).trans rfl
  have kXC2 := (XC.cell 2).trans rfl
  have zXC := XC.lt
  clear XC kXC0 kXC1 kXC2 zXC hA hB XE kXE zXE
  have hst : (fun w' => w'.cell? ⟨V1.heap.size, 0, none⟩ = some (.slice D1 (nw x) d1)) V2.drew := X5.cell
  clear kX5 zX5
  replace WW := WW.drew
  replace X5 := X5.drew
  replace O1 := O1.drew
  have qq0 := X5.lt
  refine region_L 12 (fun w' => w'.cell? ⟨V1.heap.size, 0, none⟩ = some (.slice D1 (nw x) d1)) (by kernel_rfl) hst (fun hHeld => ?_)
  clear hst
  generalize hV : V2.drew = U2x0 at hHeld WW qq0 X5 O1 ⊢
  clear hV
  refine AnyL_take (i := 0) (oi := oq82_2_0) (v := ?_) rfl (by kernel_rfl) (by kernel_rfl) (by kernel_rfl) (by kernel_rfl) (fun _ _ _ h => h) (Or.inl ⟨by rfl, ?_⟩) (by assumption) ?_
  rotate_left
  · (delta oq82_2_0; intro ws hSw; (try dsimp only at hSw); (try go_simp); (try with_reducible rfl))
  (try simp only [oq82_2_0, Act.put, List.setIfInBounds_toArray, List.set_cons_zero, List.set_cons_succ])
  refine AnyL_ready (rs := [1]) (by kernel_rfl) (by simp) ?_
  refine ReadyL.cons (o := oq82_2_1) rfl (fun K hK => ?_) ReadyL.nil
  delta oq82_2_1
  go_simp
  have hbs : w.heap.size ≤ U2x0.heap.size := WW.size
  have hc := pnum_any 1 U2x0 (by decide)
  refine hc.mono ?_
  clear hc
  rintro e V4 ⟨v, rfl, hv, hb⟩
  replace X5 := X5.below hb
  replace O1 := O1.below hb (Nat.le_refl _)
  replace WW := WW.trans (hb.mono WW.size)
  have sz4 := hb.size
  obtain ⟨D2, d2, rfl, ho⟩ := hv
  have O2 := ho.weak (b := w.heap.size) hbs
  clear ho
  clear hb hbs
  refine hK.out _ _ (X5.cell) (fun hHeld2 => ?_)
  clear hK K hHeld
  have hHeld := hHeld2
  clear hHeld2
  (try simp only [oq82_2_1, Act.put, List.setIfInBounds_toArray, List.set_cons_zero, List.set_cons_succ])
  refine AnyL_ready (rs := [2]) (by kernel_rfl) (by simp) ?_
  refine ReadyL.cons (o := oq82_2_2) rfl (fun K hK => ?_) ReadyL.nil
  delta oq82_2_2
  go_simp
  have hbs : w.heap.size ≤ V4.heap.size := WW.size
  have hc := cmp_any D1 D2 _ _ d1 d2 x 1 V4 X5.num O2.num (by omega) (by decide)
  rw [bothC_yes K1.out K2.out] at hc
  rw [← OD.out] at hc
  refine hc.mono ?_
  clear hc
  rintro e V5 ⟨rfl, hb⟩
  replace X5 := X5.below hb
  replace O1 := O1.below hb (Nat.le_refl _)
  replace O2 := O2.below hb (Nat.le_refl _)
  replace WW := WW.trans (hb.mono WW.size)
  have sz5 := hb.size
  clear hb hbs
  refine hK.out _ _ (X5.cell) (fun hHeld2 => ?_)
  clear hK K hHeld
  have hHeld := hHeld2
  clear hHeld2
  (try simp only [oq82_2_2, Act.put, List.setIfInBounds_toArray, List.set_cons_zero, List.set_cons_succ])
  refine AnyL_take (i := 3) (oi := oq82_2_3) (v := ?_) rfl (by kernel_rfl) (by kernel_rfl) (by kernel_rfl) (by kernel_rfl) (fun _ _ _ h => h) (Or.inl ⟨by rfl, ?_⟩) (by assumption) ?_
  rotate_left
  · (delta oq82_2_3; intro ws hSw; (try dsimp only at hSw); (try go_simp); (try with_reducible rfl))
  (try simp only [oq82_2_3, Act.put, List.setIfInBounds_toArray, List.set_cons_zero, List.set_cons_succ])
  refine AnyL_take (i := 4) (oi := oq82_2_4) (v := ?_) rfl (by kernel_rfl) (by kernel_rfl) (by kernel_rfl) (by kernel_rfl) (fun _ _ _ h => h) (Or.inl ⟨by rfl, ?_⟩) (by assumption) ?_
  rotate_left
  · (delta oq82_2_4; intro ws hSw; (try dsimp only at hSw); (try go_simp); (try with_reducible rfl))
  (try simp only [oq82_2_4, Act.put, List.setIfInBounds_toArray, List.set_cons_zero, List.set_cons_succ])
  refine AnyL_done (by kernel_rfl) ?_ _
  clear hHeld
  have kX5 := X5.cell
  have zX5 := X5.lt
  go_wp2_with fail
  go_ret
  exact ⟨rfl, WW⟩

end Go.Proofs.YtomkmkjkeihodaaDoor
