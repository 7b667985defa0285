/- PrimeSound: the walk. -/
import Derived.Test.YtomkmkjkeihodaaDoorS2
import Derived.Test.YtomkmkjkeihodaaDoorS3
import Derived.Test.YtomkmkjkeihodaaDoorQ1
import Derived.Test.YtomkmkjkeihodaaDoorPmB
import Derived.Test.YtomkmkjkeihodaaDoorS5
import Derived.IntWalk
set_option linter.unusedVariables false
set_option linter.unusedSimpArgs false
namespace Go.Proofs.YtomkmkjkeihodaaDoor
open Go.RowKit

def oq10_16_0 : Oper := { dst := some 55, op := Op.fieldAddr 40 (Operand.tmp 2) 0, type := 0, pos := "law.go:202", after := #[], guard := none }
def oq10_16_1 : Oper := { dst := some 56, op := Op.load 37 (Operand.tmp 55), type := 37, pos := "law.go:202", after := #[{ on := 0, ground := Ground.data }], guard := none }
def oq10_16_2 : Oper := { dst := some 57, op := Op.call { callee := Callee.value (Operand.func 31), args := #[Operand.const (Value.int IntKind.i64 2)], argTypes := #[3] }, type := 37, pos := "law.go:202", after := #[], guard := none }
def oq10_16_3 : Oper := { dst := some 58, op := Op.call { callee := Callee.value (Operand.func 30), args := #[Operand.tmp 56, Operand.tmp 57], argTypes := #[37, 37] }, type := 4, pos := "law.go:202", after := #[{ on := 1, ground := Ground.data }, { on := 2, ground := Ground.data }, { on := 2, ground := Ground.chain }], guard := none }
def oq10_16_4 : Oper := { dst := some 4, op := Op.assign (Operand.tmp 58), type := 4, pos := "law.go:202", after := #[{ on := 3, ground := Ground.data }, { on := 3, ground := Ground.chain }, { on := 0, ground := Ground.phase }, { on := 1, ground := Ground.phase }, { on := 2, ground := Ground.phase }, { on := 3, ground := Ground.phase }], guard := none }
def oq10_19_0 : Oper := { dst := some 66, op := Op.fieldAddr 40 (Operand.tmp 2) 2, type := 0, pos := "law.go:206", after := #[], guard := none }
def oq10_19_1 : Oper := { dst := some 67, op := Op.load 38 (Operand.tmp 66), type := 38, pos := "law.go:206", after := #[{ on := 0, ground := Ground.data }], guard := none }
def oq10_19_2 : Oper := { dst := some 68, op := Op.move (Operand.tmp 11), type := 3, pos := "law.go:206", after := #[], guard := none }
def oq10_19_3 : Oper := { dst := some 69, op := Op.slice 38 (Operand.tmp 67) none (some (Operand.tmp 68)) none, type := 38, pos := "law.go:206", after := #[{ on := 1, ground := Ground.data }, { on := 2, ground := Ground.data }], guard := none }
def oq10_19_4 : Oper := { dst := some 70, op := Op.fieldAddr 40 (Operand.tmp 2) 2, type := 0, pos := "law.go:206", after := #[], guard := none }
def oq10_19_5 : Oper := { dst := some 71, op := Op.load 38 (Operand.tmp 70), type := 38, pos := "law.go:206", after := #[{ on := 4, ground := Ground.data }], guard := none }
def oq10_19_6 : Oper := { dst := some 72, op := Op.move (Operand.tmp 11), type := 3, pos := "law.go:206", after := #[], guard := none }
def oq10_19_7 : Oper := { dst := some 73, op := Op.binOp BinOp.add 3 (Operand.tmp 72) (Operand.const (Value.int IntKind.i64 1)) 3, type := 3, pos := "law.go:206", after := #[{ on := 6, ground := Ground.data }], guard := none }
def oq10_19_8 : Oper := { dst := some 74, op := Op.slice 38 (Operand.tmp 71) (some (Operand.tmp 73)) none none, type := 38, pos := "law.go:206", after := #[{ on := 5, ground := Ground.data }, { on := 7, ground := Ground.data }], guard := none }
def oq10_19_9 : Oper := { dst := some 75, op := Op.buildSlice 72 2 #[(0, Operand.tmp 69), (1, Operand.tmp 74)], type := 72, pos := "law.go:206", after := #[{ on := 3, ground := Ground.data }, { on := 8, ground := Ground.data }], guard := none }
def oq10_19_10 : Oper := { dst := some 76, op := Op.call { callee := Callee.value (Operand.func 32), args := #[Operand.tmp 75], argTypes := #[72] }, type := 38, pos := "law.go:206", after := #[{ on := 9, ground := Ground.data }], guard := none }
def oq10_19_11 : Oper := { dst := some 77, op := Op.fieldAddr 40 (Operand.tmp 10) 2, type := 0, pos := "law.go:206", after := #[{ on := 0, ground := Ground.phase }, { on := 1, ground := Ground.phase }, { on := 2, ground := Ground.phase }, { on := 3, ground := Ground.phase }, { on := 4, ground := Ground.phase }, { on := 5, ground := Ground.phase }, { on := 6, ground := Ground.phase }, { on := 7, ground := Ground.phase }, { on := 8, ground := Ground.phase }, { on := 9, ground := Ground.phase }, { on := 10, ground := Ground.phase }], guard := none }
def oq10_19_12 : Oper := { dst := none, op := Op.store 38 (Operand.tmp 77) (Operand.tmp 76), type := 0, pos := "law.go:206", after := #[{ on := 11, ground := Ground.data }, { on := 10, ground := Ground.data }, { on := 10, ground := Ground.chain }, { on := 0, ground := Ground.phase }, { on := 1, ground := Ground.phase }, { on := 2, ground := Ground.phase }, { on := 3, ground := Ground.phase }, { on := 4, ground := Ground.phase }, { on := 5, ground := Ground.phase }, { on := 6, ground := Ground.phase }, { on := 7, ground := Ground.phase }, { on := 8, ground := Ground.phase }, { on := 9, ground := Ground.phase }, { on := 10, ground := Ground.phase }], guard := none }
theorem rof_1s (w : World) : Calls Tryd.prog 31 #[.int .i64 1] w (RetNat w.heap.size 1 w) := rof_any 1 w (by decide)
theorem rof_2 (w : World) : Calls Tryd.prog 31 #[.int .i64 2] w (RetNat w.heap.size 2 w) := rof_any 2 w (by decide)
/-- What a right certificate of one's own arguments is. -/
theorem ver_wds {n a m b : Nat} {ps : List CT} (h : verB (.node n a m b ps) = true) : n = nw a ∧ m = nw b ∧ nw a ≤ 32 ∧ nw b ≤ 32 ∧ b < a := by
  have h1 := (rightB_node (verB_out h).2).1
  obtain ⟨e1, e2, h3, _, _, h4, _⟩ := rngB_out h1
  exact ⟨e1, e2, h3, Nat.le_trans (nw_mono (by omega)) h3, h4⟩
set_option maxHeartbeats 4000000 in
set_option maxRecDepth 100000 in
theorem sound_walk (t : CT) (x y z : Value) (q0 : Nat) (w : World) (hV : CV w w.heap.size x y z t) (hcap : ∀ P k e, z = .slice P k e → k ≤ e ∧ e ≤ 9223372036854775807) (hq0 : q0 ≤ 255) (hTB : Tabs w) :
    Calls Tryd.prog 10 #[.agg #[x, y, z], .int .u8 ((q0 : Nat) : Int)] w (RetB (.bool true) w) := by
  have HV := hid hV
  have HTB := hid hTB
  rcases hV with @⟨A, A', P, n, c, a, m, d, b, k, ex, ps, X, Y, Z, hN, hR, hn, hm, hk, hk2, hP, hT⟩
  have HPV : Hid (PV w P k ps) := ⟨hk, hk2, X, Y, Z, hP, hT⟩
  obtain ⟨hex1, hex2⟩ := hcap P k ex rfl
  have HN0 := hid hN
  have HB0 := hid hR
  have HK := hid hk
  have HP := hid hP
  have HTT := hid hT
  clear hP hT hk hN hR hcap hTB
  obtain ⟨XC, WW⟩ := box3 w (.slice A n c) (.slice A' m d) (.slice P k ex)
  go_enter Tryd.func10, Tryd.ntmps10
  go_wp2_with fail
  generalize hV : w.alloc (.cells #[.slice A n c, .slice A' m d, .slice P k ex] 40) = V0 at XC WW ⊢
  clear hV
  have kXC0 : V0.cell? ⟨w.heap.size, 0, none⟩ = some (.slice A n c) := (XC.cell 0).trans rfl
  have kXC1 : V0.cell? ⟨w.heap.size, 1, none⟩ = some (.slice A' m d) := (XC.cell 1).trans rfl
  have kXC2 : V0.cell? ⟨w.heap.size, 2, none⟩ = some (.slice P k ex) := (XC.cell 2).trans rfl
  have zXC := XC.lt
  have hbs : w.heap.size ≤ V0.heap.size := WW.size
  have hc := awake_any V0 (HTB.out.below WW (Nat.le_refl _))
  refine hc.mono ?_
  clear hc
  rintro e V1 ⟨rfl, hb⟩
  clear kXC0 kXC1 kXC2 zXC
  replace XC := XC.below hb XC.lt
  replace WW := WW.trans (hb.mono WW.size)
  have kXC0 : V1.cell? ⟨w.heap.size, 0, none⟩ = some (.slice A n c) := (XC.cell 0).trans rfl
  have kXC1 : V1.cell? ⟨w.heap.size, 1, none⟩ = some (.slice A' m d) := (XC.cell 1).trans rfl
  have kXC2 : V1.cell? ⟨w.heap.size, 2, none⟩ = some (.slice P k ex) := (XC.cell 2).trans rfl
  have zXC := XC.lt
  clear hb hbs
  go_wp2_with fail
  have hwl : w.heap.size ≤ V1.heap.size := WW.size
  have hwl2 : w.heap.size ≠ V1.heap.size := by have := XC.lt; omega
  clear kXC0 kXC1 kXC2 zXC
  have bw := (Below.refl V1.heap.size V1).alloc (Nat.le_refl _) (.cells #[.int .i64 1100] 3)
  have LF := Blk.new V1 3 #[.int .i64 1100]
  replace XC := XC.below bw XC.lt
  replace WW := WW.trans (bw.mono WW.size)
  clear bw
  generalize hV : V1.alloc (.cells #[.int .i64 1100] 3) = V2 at XC LF WW ⊢
  clear hV
  have kXC0 : V2.cell? ⟨w.heap.size, 0, none⟩ = some (.slice A n c) := (XC.cell 0).trans rfl
  have kXC1 : V2.cell? ⟨w.heap.size, 1, none⟩ = some (.slice A' m d) := (XC.cell 1).trans rfl
  have kXC2 : V2.cell? ⟨w.heap.size, 2, none⟩ = some (.slice P k ex) := (XC.cell 2).trans rfl
  have zXC := XC.lt
  have kLF := LF.cell0
  have zLF := LF.lt
  go_wp2_with fail
  have hc := few_any _ _ (Nat.le_refl _) _ _ _ V1.heap.size w.heap.size 1100 V2 (HV.out.to WW (Nat.le_refl _)) hwl LF (by omega) (by omega)
  refine hc.mono ?_
  clear hc
  rintro e V60 ⟨q, zq, rfl, -, -, -, -, hgr⟩
  clear kLF zLF kXC0 kXC1 kXC2 zXC
  have XC2 := XC.grown hgr (by simp; omega)
  have WW2 := grown_base WW hgr (fun g hg => by injection hg with hg; omega)
  clear XC WW LF hgr hwl hwl2
  have XC := XC2
  have WW := WW2
  clear XC2 WW2
  have kXC0 : V60.cell? ⟨w.heap.size, 0, none⟩ = some (.slice A n c) := (XC.cell 0).trans rfl
  have kXC1 : V60.cell? ⟨w.heap.size, 1, none⟩ = some (.slice A' m d) := (XC.cell 1).trans rfl
  have kXC2 : V60.cell? ⟨w.heap.size, 2, none⟩ = some (.slice P k ex) := (XC.cell 2).trans rfl
  have zXC := XC.lt
  cases q
  · go_wp2_with fail
    go_ret
    exact ⟨rfl, WW⟩
  · go_wp2_with fail
    obtain ⟨vv, hvv⟩ : ∃ r, r = verB (.node n a m b ps) := ⟨_, rfl⟩
    have hbs : w.heap.size ≤ V60.heap.size := WW.size
    have hc := verify_any _ _ _ _ V60 (HV.out.to WW WW.size)
    rw [← hvv] at hc
    refine hc.mono ?_
    clear hc
    rintro e V3 ⟨rfl, hb⟩
    clear kXC0 kXC1 kXC2 zXC
    replace XC := XC.below hb XC.lt
    replace WW := WW.trans (hb.mono WW.size)
    have kXC0 : V3.cell? ⟨w.heap.size, 0, none⟩ = some (.slice A n c) := (XC.cell 0).trans rfl
    have kXC1 : V3.cell? ⟨w.heap.size, 1, none⟩ = some (.slice A' m d) := (XC.cell 1).trans rfl
    have kXC2 : V3.cell? ⟨w.heap.size, 2, none⟩ = some (.slice P k ex) := (XC.cell 2).trans rfl
    have zXC := XC.lt
    clear hb hbs
    cases vv
    · clear hvv
      go_wp2_with fail
      go_ret
      exact ⟨rfl, WW⟩
    · obtain ⟨en, em, ha32, hb32, hba⟩ := ver_wds hvv.symm
      subst en em
      have HVV := hid hvv.symm
      clear hvv
      have HPR : Hid (Pr a) := (show Pr a from ver_pr HVV.out)
      go_wp2_with fail
      have hbs : w.heap.size ≤ V3.heap.size := WW.size
      have hc := int_any A (nw a) c a V3 (HN0.out.up WW) (by omega)
      refine hc.mono ?_
      clear hc
      rintro e V4 ⟨rfl, hb⟩
      clear kXC0 kXC1 kXC2 zXC
      replace XC := XC.below hb XC.lt
      replace WW := WW.trans (hb.mono WW.size)
      have kXC0 : V4.cell? ⟨w.heap.size, 0, none⟩ = some (.slice A (nw a) c) := (XC.cell 0).trans rfl
      have kXC1 : V4.cell? ⟨w.heap.size, 1, none⟩ = some (.slice A' (nw b) d) := (XC.cell 1).trans rfl
      have kXC2 : V4.cell? ⟨w.heap.size, 2, none⟩ = some (.slice P k ex) := (XC.cell 2).trans rfl
      have zXC := XC.lt
      clear hb hbs
      by_cases hbl : bl a ≤ 63
      · rw [intS_ok (okB_nw (by omega)) hbl]
        by_cases hlt : a < 2305843009213693952
        · have l3 : decide (((a : Nat) : Int) < 2305843009213693952) = true := by simp; omega
          have HIS := hid (isB_of_pr HPR.out (by omega))
          clear hbl
          go_wp2_with fail
          have hbs : w.heap.size ≤ V4.heap.size := WW.size
          have hc := is_any a V4 (by omega) (HTB.out.below WW (Nat.le_refl _))
          rw [HIS.out] at hc
          refine hc.mono ?_
          clear hc
          rintro e V5 ⟨rfl, hb⟩
          clear kXC0 kXC1 kXC2 zXC
          replace XC := XC.below hb XC.lt
          replace WW := WW.trans (hb.mono WW.size)
          have kXC0 : V5.cell? ⟨w.heap.size, 0, none⟩ = some (.slice A (nw a) c) := (XC.cell 0).trans rfl
          have kXC1 : V5.cell? ⟨w.heap.size, 1, none⟩ = some (.slice A' (nw b) d) := (XC.cell 1).trans rfl
          have kXC2 : V5.cell? ⟨w.heap.size, 2, none⟩ = some (.slice P k ex) := (XC.cell 2).trans rfl
          have zXC := XC.lt
          clear hb hbs
          go_wp2_with fail
          go_loopw [43] (fun i wr => ∃ (j : Nat), j ≤ k ∧ i = .int .i64 ((j : Nat) : Int) ∧ Below w.heap.size w wr ∧ Blk wr (w.heap.size) 40 #[.slice A (nw a) c, .slice A' (nw b) d, .slice P k ex]) (fun i wr => k - (intOf i).toNat)
          case atStart => exact ⟨0, by omega, by go_num, WW, XC⟩
          case round =>
            clear WW kXC0 kXC1 kXC2 zXC XC
            obtain ⟨j, hjk0, rfl, WW, XC⟩ := hrel
            have kXC0 : wr.cell? ⟨w.heap.size, 0, none⟩ = some (.slice A (nw a) c) := (XC.cell 0).trans rfl
            have kXC1 : wr.cell? ⟨w.heap.size, 1, none⟩ = some (.slice A' (nw b) d) := (XC.cell 1).trans rfl
            have kXC2 : wr.cell? ⟨w.heap.size, 2, none⟩ = some (.slice P k ex) := (XC.cell 2).trans rfl
            have zXC := XC.lt
            by_cases hjk : j < k
            · have l1 : decide (((j : Nat) : Int) < ((k : Nat) : Int)) = true := by simp; omega
              obtain ⟨hl, ad, A1, A2, A3, c1, n2, c2, n3, c3, e, q0, q1, q2, HN1, hn1, hx⟩ := HPV.out.part hjk WW
              obtain ⟨n1, hn1'⟩ : ∃ x, x = ps[j].wds := ⟨_, rfl⟩
              obtain ⟨a1, ha1⟩ : ∃ x, x = ps[j].val := ⟨_, rfl⟩
              rw [← hn1'] at q0 HN1 hn1 hx
              rw [← ha1] at HN1
              have HW1 := hid hn1'
              have HA1 := hid ha1
              have HX := hid hx
              have HN := hid HN1
              clear hn1' ha1 hx HN1
              subst e
              have HVJ := hid (ver_part HVV.out hl)
              obtain ⟨pj, hpj⟩ : ∃ p, p = ps[j] := ⟨_, rfl⟩
              rw [← hpj] at HX HVJ
              clear hpj
              go_wp2_with fail
              clear kXC0 kXC1 kXC2 zXC
              have bw := (Below.refl wr.heap.size wr).alloc (Nat.le_refl _) (.cells #[.slice A1 n1 c1, .slice A2 n2 c2, .slice A3 n3 c3] 40)
              have XP := Blk.new wr 40 #[.slice A1 n1 c1, .slice A2 n2 c2, .slice A3 n3 c3]
              replace XC := XC.below bw XC.lt
              replace WW := WW.trans (bw.mono WW.size)
              clear bw
              generalize hV : wr.alloc (.cells #[.slice A1 n1 c1, .slice A2 n2 c2, .slice A3 n3 c3] 40) = V6 at XC XP WW ⊢
              clear hV
              have kXC0 : V6.cell? ⟨w.heap.size, 0, none⟩ = some (.slice A (nw a) c) := (XC.cell 0).trans rfl
              have kXC1 : V6.cell? ⟨w.heap.size, 1, none⟩ = some (.slice A' (nw b) d) := (XC.cell 1).trans rfl
              have kXC2 : V6.cell? ⟨w.heap.size, 2, none⟩ = some (.slice (some ad) k ex) := (XC.cell 2).trans rfl
              have zXC := XC.lt
              have kXP0 : V6.cell? ⟨wr.heap.size, 0, none⟩ = some (.slice A1 n1 c1) := (XP.cell 0).trans rfl
              have kXP1 : V6.cell? ⟨wr.heap.size, 1, none⟩ = some (.slice A2 n2 c2) := (XP.cell 1).trans rfl
              have kXP2 : V6.cell? ⟨wr.heap.size, 2, none⟩ = some (.slice A3 n3 c3) := (XP.cell 2).trans rfl
              have zXP := XP.lt
              go_wp2_with fail
              have hbs : w.heap.size ≤ V6.heap.size := WW.size
              have hc := verify_any pj _ _ _ V6 (HX.out.go WW)
              rw [HVJ.out] at hc
              refine hc.mono ?_
              clear hc
              rintro e V7 ⟨rfl, hb⟩
              clear kXC0 kXC1 kXC2 zXC kXP0 kXP1 kXP2 zXP
              replace XC := XC.below hb XC.lt
              replace XP := XP.below hb XP.lt
              replace WW := WW.trans (hb.mono WW.size)
              have kXC0 : V7.cell? ⟨w.heap.size, 0, none⟩ = some (.slice A (nw a) c) := (XC.cell 0).trans rfl
              have kXC1 : V7.cell? ⟨w.heap.size, 1, none⟩ = some (.slice A' (nw b) d) := (XC.cell 1).trans rfl
              have kXC2 : V7.cell? ⟨w.heap.size, 2, none⟩ = some (.slice (some ad) k ex) := (XC.cell 2).trans rfl
              have zXC := XC.lt
              have kXP0 : V7.cell? ⟨wr.heap.size, 0, none⟩ = some (.slice A1 n1 c1) := (XP.cell 0).trans rfl
              have kXP1 : V7.cell? ⟨wr.heap.size, 1, none⟩ = some (.slice A2 n2 c2) := (XP.cell 1).trans rfl
              have kXP2 : V7.cell? ⟨wr.heap.size, 2, none⟩ = some (.slice A3 n3 c3) := (XP.cell 2).trans rfl
              have zXP := XP.lt
              clear hb hbs
              go_wp2_with fail
              go_roundw
              case rel => exact ⟨j + 1, by omega, by go_num, WW, XC⟩
              case measure => simp [intOf] <;> omega
            · have l1 : decide (((j : Nat) : Int) < ((k : Nat) : Int)) = false := by simp; omega
              by_cases hk0 : k = 0
              · have hps : ps = [] := List.eq_nil_of_length_eq_zero (by rw [HK.out]; exact hk0)
                have h2 := HVV.out
                rw [hps] at h2
                obtain ⟨ea, _, _⟩ := ver_none h2
                have l2 : (((k : Nat) : Int) == 0) = true := by rw [hk0]; rfl
                have HS2 : Hid (sameR (nw a) a (nw 2) 2 = true) := (show _ = _ by rw [ea]; exact sameR_yes rfl rfl)
                clear ea h2 hps hk0
                go_wp2_with fail
                have hst : (fun w' => w'.cell? ⟨w.heap.size, 0, none⟩ = some (.slice A (nw a) c) ∧ w'.cell? ⟨w.heap.size, 1, none⟩ = some (.slice A' (nw b) d) ∧ w'.cell? ⟨w.heap.size, 2, none⟩ = some (.slice P k ex)) wr.drew := ⟨(XC.cell 0).trans rfl, (XC.cell 1).trans rfl, (XC.cell 2).trans rfl⟩
                clear kXC0 kXC1 kXC2 zXC
                replace WW := WW.drew
                replace XC : Blk wr.drew (w.heap.size) 40 #[.slice A (nw a) c, .slice A' (nw b) d, .slice P k ex] := XC
                refine region_L 12 (fun w' => w'.cell? ⟨w.heap.size, 0, none⟩ = some (.slice A (nw a) c) ∧ w'.cell? ⟨w.heap.size, 1, none⟩ = some (.slice A' (nw b) d) ∧ w'.cell? ⟨w.heap.size, 2, none⟩ = some (.slice P k ex)) (by kernel_rfl) hst (fun hHeld => ?_)
                clear hst
                generalize hV : wr.drew = U5x0 at hHeld WW XC ⊢
                clear hV
                refine AnyL_take (i := 0) (oi := oq10_16_0) (v := ?_) rfl (by kernel_rfl) (by kernel_rfl) (by kernel_rfl) (by kernel_rfl) (fun _ _ _ h => h) (Or.inl ⟨by rfl, ?_⟩) (by assumption) ?_
                rotate_left
                · (delta oq10_16_0; intro ws hSw; (try dsimp only at hSw); (try go_simp); (try with_reducible rfl))
                (try simp only [oq10_16_0, Act.put, List.setIfInBounds_toArray, List.set_cons_zero, List.set_cons_succ])
                refine AnyL_take (i := 1) (oi := oq10_16_1) (v := ?_) rfl (by kernel_rfl) (by kernel_rfl) (by kernel_rfl) (by kernel_rfl) (fun _ _ _ h => h) (Or.inl ⟨by rfl, ?_⟩) (by assumption) ?_
                rotate_left
                · (delta oq10_16_1; intro ws hSw; (try dsimp only at hSw); (try go_simp); (try with_reducible rfl))
                (try simp only [oq10_16_1, Act.put, List.setIfInBounds_toArray, List.set_cons_zero, List.set_cons_succ])
                refine AnyL_ready (rs := [2]) (by kernel_rfl) (by simp) ?_
                refine ReadyL.cons (o := oq10_16_2) rfl (fun K hK => ?_) ReadyL.nil
                delta oq10_16_2
                go_simp
                have hbs : w.heap.size ≤ U5x0.heap.size := WW.size
                have hc := rof_2 U5x0
                refine hc.mono ?_
                clear hc
                rintro e V7 ⟨v, rfl, hv, hb⟩
                replace XC := XC.below hb XC.lt
                replace WW := WW.trans (hb.mono WW.size)
                have sz7 := hb.size
                obtain ⟨D1, d1, rfl, ho⟩ := hv
                have O1 := ho.weak (b := w.heap.size) hbs
                clear ho
                clear hb hbs
                refine hK.out _ _ (⟨(XC.cell 0).trans rfl, (XC.cell 1).trans rfl, (XC.cell 2).trans rfl⟩) (fun hHeld2 => ?_)
                clear hK K hHeld
                have hHeld := hHeld2
                clear hHeld2
                (try simp only [oq10_16_2, Act.put, List.setIfInBounds_toArray, List.set_cons_zero, List.set_cons_succ])
                refine AnyL_ready (rs := [3]) (by kernel_rfl) (by simp) ?_
                refine ReadyL.cons (o := oq10_16_3) rfl (fun K hK => ?_) ReadyL.nil
                delta oq10_16_3
                go_simp
                have hbs : w.heap.size ≤ V7.heap.size := WW.size
                have hc := rsame_any A D1 (nw a) (nw 2) c d1 a 2 V7 (HN0.out.up WW) O1.num (by omega) (by decide)
                rw [HS2.out] at hc
                refine hc.mono ?_
                clear hc
                rintro e V8 ⟨rfl, hb⟩
                replace O1 := O1.below hb (Nat.le_refl _)
                replace XC := XC.below hb XC.lt
                replace WW := WW.trans (hb.mono WW.size)
                have sz8 := hb.size
                clear hb hbs
                refine hK.out _ _ (⟨(XC.cell 0).trans rfl, (XC.cell 1).trans rfl, (XC.cell 2).trans rfl⟩) (fun hHeld2 => ?_)
                clear hK K hHeld
                have hHeld := hHeld2
                clear hHeld2
                (try simp only [oq10_16_3, Act.put, List.setIfInBounds_toArray, List.set_cons_zero, List.set_cons_succ])
                refine AnyL_take (i := 4) (oi := oq10_16_4) (v := ?_) rfl (by kernel_rfl) (by kernel_rfl) (by kernel_rfl) (by kernel_rfl) (fun _ _ _ h => h) (Or.inl ⟨by rfl, ?_⟩) (by assumption) ?_
                rotate_left
                · (delta oq10_16_4; intro ws hSw; (try dsimp only at hSw); (try go_simp); (try with_reducible rfl))
                (try simp only [oq10_16_4, Act.put, List.setIfInBounds_toArray, List.set_cons_zero, List.set_cons_succ])
                refine AnyL_done (by kernel_rfl) ?_ _
                clear hHeld
                have kXC0 : V8.cell? ⟨w.heap.size, 0, none⟩ = some (.slice A (nw a) c) := (XC.cell 0).trans rfl
                have kXC1 : V8.cell? ⟨w.heap.size, 1, none⟩ = some (.slice A' (nw b) d) := (XC.cell 1).trans rfl
                have kXC2 : V8.cell? ⟨w.heap.size, 2, none⟩ = some (.slice P k ex) := (XC.cell 2).trans rfl
                have zXC := XC.lt
                go_wp2_with fail
                go_ret
                exact ⟨rfl, WW⟩
              · have l2 : (((k : Nat) : Int) == 0) = false := by simp; omega
                obtain ⟨ad, e0, had, _⟩ := HP.out 0 (by omega)
                subst e0
                obtain ⟨k1, hk1⟩ : ∃ x, x = q0 % k := ⟨_, rfl⟩
                have hk1k : k1 < k := by rw [hk1]; exact Nat.mod_lt _ (by omega)
                have tr : Int.tmod ((q0 : Nat) : Int) ((k : Nat) : Int) = ((k1 : Nat) : Int) := by rw [hk1]; rfl
                have hz : decide (((k : Nat) : Int) = 0) = false := by simp; omega
                clear hk1
                have hk1k2 : ((k1 : Nat) : Int) < ((k : Nat) : Int) := by omega
                by_cases hfull : k1 + 1 = ex
                · have hfu : (ex = k1 + 1) = True := eq_true hfull.symm
                  have hk1ex : k1 ≤ ex := by omega
                  clear hfull
                  go_wp2_with fail
                  have qXCo := XC.lt
                  clear kXC0 kXC1 kXC2 zXC
                  have bw := (Below.refl wr.heap.size wr).alloc (Nat.le_refl _) (.cells #[.slice A (nw a) c, .slice A' (nw b) d, .slice (some ad) k ex] 40)
                  have OT := Blk.new wr 40 #[.slice A (nw a) c, .slice A' (nw b) d, .slice (some ad) k ex]
                  replace XC := XC.below bw XC.lt
                  replace WW := WW.trans (bw.mono WW.size)
                  clear bw
                  generalize hV : wr.alloc (.cells #[.slice A (nw a) c, .slice A' (nw b) d, .slice (some ad) k ex] 40) = V6 at XC OT WW ⊢
                  clear hV
                  have kXC0 : V6.cell? ⟨w.heap.size, 0, none⟩ = some (.slice A (nw a) c) := (XC.cell 0).trans rfl
                  have kXC1 : V6.cell? ⟨w.heap.size, 1, none⟩ = some (.slice A' (nw b) d) := (XC.cell 1).trans rfl
                  have kXC2 : V6.cell? ⟨w.heap.size, 2, none⟩ = some (.slice (some ad) k ex) := (XC.cell 2).trans rfl
                  have zXC := XC.lt
                  have kOT0 : V6.cell? ⟨wr.heap.size, 0, none⟩ = some (.slice A (nw a) c) := (OT.cell 0).trans rfl
                  have kOT1 : V6.cell? ⟨wr.heap.size, 1, none⟩ = some (.slice A' (nw b) d) := (OT.cell 1).trans rfl
                  have kOT2 : V6.cell? ⟨wr.heap.size, 2, none⟩ = some (.slice (some ad) k ex) := (OT.cell 2).trans rfl
                  have zOT := OT.lt
                  go_wp2_with fail
                  have w1 : IntKind.i64.wrap (((k1 : Nat) : Int) + 1) = ((k1 : Nat) : Int) + 1 := IntWalk.i64_in _ (by omega)
                  have w2 : (0 : Int) ≤ ((k1 : Nat) : Int) + 1 := by omega
                  have w3 : (((k1 : Nat) : Int) + 1).toNat = k1 + 1 := by omega
                  have w4 : ((k1 : Nat) : Int) + 1 ≤ ((k : Nat) : Int) := by omega
                  have HRA : Hid (∀ V, Below w.heap.size w V → RowAt V V.heap.size ad (flat (trp X Y Z (List.range' 0 k1)))) := (show ∀ V, _ → _ from fun V hV => row_parts HK.out had HP.out HTT.out hV (by omega) rfl (fun j hj => by rw [Nat.zero_mul, Nat.zero_add]))
                  have HRB : Hid (∀ V, Below w.heap.size w V → RowAt V V.heap.size ad (flat (trp X Y Z (List.range' (k1 + 1) (k - (k1 + 1)))))) := (show ∀ V, _ → _ from fun V hV => row_parts HK.out had HP.out HTT.out hV (by omega) rfl (fun j hj => absurd hj (by have := of_eq_true hfu; omega)))
                  have HLA : Hid ((flat (trp X Y Z (List.range' 0 k1))).length = k1 * 3) := (show _ = _ by rw [trp_len]; simp)
                  have HLB : Hid ((flat (trp X Y Z (List.range' (k1 + 1) (k - (k1 + 1))))).length = (k - (k1 + 1)) * 3) := (show _ = _ by rw [trp_len]; simp)
                  have hk1000 : k ≤ 1000 := by rw [← HK.out]; exact ver_len HVV.out
                  have hst : (fun w' => w'.cell? ⟨w.heap.size, 0, none⟩ = some (.slice A (nw a) c) ∧ w'.cell? ⟨w.heap.size, 1, none⟩ = some (.slice A' (nw b) d) ∧ w'.cell? ⟨w.heap.size, 2, none⟩ = some (.slice (some ad) k ex)) V6.drew := ⟨(XC.cell 0).trans rfl, (XC.cell 1).trans rfl, (XC.cell 2).trans rfl⟩
                  clear kXC0 kXC1 kXC2 zXC kOT0 kOT1 kOT2 zOT
                  replace WW := WW.drew
                  replace XC : Blk V6.drew (w.heap.size) 40 #[.slice A (nw a) c, .slice A' (nw b) d, .slice (some ad) k ex] := XC
                  replace OT : Blk V6.drew (wr.heap.size) 40 #[.slice A (nw a) c, .slice A' (nw b) d, .slice (some ad) k ex] := OT
                  refine region_L 20 (fun w' => w'.cell? ⟨w.heap.size, 0, none⟩ = some (.slice A (nw a) c) ∧ w'.cell? ⟨w.heap.size, 1, none⟩ = some (.slice A' (nw b) d) ∧ w'.cell? ⟨w.heap.size, 2, none⟩ = some (.slice (some ad) k ex)) (by kernel_rfl) hst (fun hHeld => ?_)
                  clear hst
                  generalize hV : V6.drew = U6x0 at hHeld WW XC OT ⊢
                  clear hV
                  refine AnyL_take (i := 0) (oi := oq10_19_0) (v := ?_) rfl (by kernel_rfl) (by kernel_rfl) (by kernel_rfl) (by kernel_rfl) (fun _ _ _ h => h) (Or.inl ⟨by rfl, ?_⟩) (by assumption) ?_
                  rotate_left
                  · (delta oq10_19_0; intro ws hSw; (try dsimp only at hSw); (try go_simp); (try with_reducible rfl))
                  (try simp only [oq10_19_0, Act.put, List.setIfInBounds_toArray, List.set_cons_zero, List.set_cons_succ])
                  refine AnyL_take (i := 1) (oi := oq10_19_1) (v := ?_) rfl (by kernel_rfl) (by kernel_rfl) (by kernel_rfl) (by kernel_rfl) (fun _ _ _ h => h) (Or.inl ⟨by rfl, ?_⟩) (by assumption) ?_
                  rotate_left
                  · (delta oq10_19_1; intro ws hSw; (try dsimp only at hSw); (try go_simp); (try with_reducible rfl))
                  (try simp only [oq10_19_1, Act.put, List.setIfInBounds_toArray, List.set_cons_zero, List.set_cons_succ])
                  refine AnyL_take (i := 2) (oi := oq10_19_2) (v := ?_) rfl (by kernel_rfl) (by kernel_rfl) (by kernel_rfl) (by kernel_rfl) (fun _ _ _ h => h) (Or.inl ⟨by rfl, ?_⟩) (by assumption) ?_
                  rotate_left
                  · (delta oq10_19_2; intro ws hSw; (try dsimp only at hSw); (try go_simp); (try with_reducible rfl))
                  (try simp only [oq10_19_2, Act.put, List.setIfInBounds_toArray, List.set_cons_zero, List.set_cons_succ])
                  refine AnyL_take (i := 3) (oi := oq10_19_3) (v := ?_) rfl (by kernel_rfl) (by kernel_rfl) (by kernel_rfl) (by kernel_rfl) (fun _ _ _ h => h) (Or.inl ⟨by rfl, ?_⟩) (by assumption) ?_
                  rotate_left
                  · (delta oq10_19_3; intro ws hSw; (try dsimp only at hSw); (try go_simp); (try with_reducible rfl))
                  (try simp only [oq10_19_3, Act.put, List.setIfInBounds_toArray, List.set_cons_zero, List.set_cons_succ])
                  refine AnyL_take (i := 4) (oi := oq10_19_4) (v := ?_) rfl (by kernel_rfl) (by kernel_rfl) (by kernel_rfl) (by kernel_rfl) (fun _ _ _ h => h) (Or.inl ⟨by rfl, ?_⟩) (by assumption) ?_
                  rotate_left
                  · (delta oq10_19_4; intro ws hSw; (try dsimp only at hSw); (try go_simp); (try with_reducible rfl))
                  (try simp only [oq10_19_4, Act.put, List.setIfInBounds_toArray, List.set_cons_zero, List.set_cons_succ])
                  refine AnyL_take (i := 5) (oi := oq10_19_5) (v := ?_) rfl (by kernel_rfl) (by kernel_rfl) (by kernel_rfl) (by kernel_rfl) (fun _ _ _ h => h) (Or.inl ⟨by rfl, ?_⟩) (by assumption) ?_
                  rotate_left
                  · (delta oq10_19_5; intro ws hSw; (try dsimp only at hSw); (try go_simp); (try with_reducible rfl))
                  (try simp only [oq10_19_5, Act.put, List.setIfInBounds_toArray, List.set_cons_zero, List.set_cons_succ])
                  refine AnyL_take (i := 6) (oi := oq10_19_6) (v := ?_) rfl (by kernel_rfl) (by kernel_rfl) (by kernel_rfl) (by kernel_rfl) (fun _ _ _ h => h) (Or.inl ⟨by rfl, ?_⟩) (by assumption) ?_
                  rotate_left
                  · (delta oq10_19_6; intro ws hSw; (try dsimp only at hSw); (try go_simp); (try with_reducible rfl))
                  (try simp only [oq10_19_6, Act.put, List.setIfInBounds_toArray, List.set_cons_zero, List.set_cons_succ])
                  refine AnyL_take (i := 7) (oi := oq10_19_7) (v := ?_) rfl (by kernel_rfl) (by kernel_rfl) (by kernel_rfl) (by kernel_rfl) (fun _ _ _ h => h) (Or.inl ⟨by rfl, ?_⟩) (by assumption) ?_
                  rotate_left
                  · (delta oq10_19_7; intro ws hSw; (try dsimp only at hSw); (try go_simp); (try with_reducible rfl))
                  (try simp only [oq10_19_7, Act.put, List.setIfInBounds_toArray, List.set_cons_zero, List.set_cons_succ])
                  refine AnyL_take (i := 8) (oi := oq10_19_8) (v := ?_) rfl (by kernel_rfl) (by kernel_rfl) (by kernel_rfl) (by kernel_rfl) (fun _ _ _ h => h) (Or.inl ⟨by rfl, ?_⟩) (by assumption) ?_
                  rotate_left
                  · (delta oq10_19_8; intro ws hSw; (try dsimp only at hSw); (try go_simp); (try with_reducible rfl))
                  (try simp only [oq10_19_8, Act.put, List.setIfInBounds_toArray, List.set_cons_zero, List.set_cons_succ])
                  refine AnyL_ready (rs := [9]) (by kernel_rfl) (by simp) ?_
                  refine ReadyL.cons (o := oq10_19_9) rfl (fun K hK => ?_) ReadyL.nil
                  delta oq10_19_9
                  go_simp
                  have lqXC := XC.lt
                  have lqOT := OT.lt
                  have ba := (Below.refl U6x0.heap.size U6x0).alloc (Nat.le_refl _) (.cells #[.slice (some ad) k1 ex, .slice (some ad) (k - (k1 + 1)) (ex - (k1 + 1))] 38)
                  replace XC := XC.below ba XC.lt
                  replace OT := OT.below ba OT.lt
                  have BL := Blk.new U6x0 38 #[.slice (some ad) k1 ex, .slice (some ad) (k - (k1 + 1)) (ex - (k1 + 1))]
                  replace WW := WW.trans (ba.mono WW.size)
                  refine hK.out _ _ (⟨(XC.cell 0).trans rfl, (XC.cell 1).trans rfl, (XC.cell 2).trans rfl⟩) (fun hHeld2 => ?_)
                  clear hK K hHeld ba
                  (try simp only [oq10_19_9, Act.put, List.setIfInBounds_toArray, List.set_cons_zero, List.set_cons_succ])
                  generalize hV : U6x0.alloc (.cells #[.slice (some ad) k1 ex, .slice (some ad) (k - (k1 + 1)) (ex - (k1 + 1))] 38) = V8 at hHeld2 WW BL XC OT ⊢
                  clear hV
                  have hHeld := hHeld2
                  clear hHeld2
                  have lqb := BL.lt
                  refine AnyL_ready (rs := [10]) (by kernel_rfl) (by simp) ?_
                  refine ReadyL.cons (o := oq10_19_10) rfl (fun K hK => ?_) ReadyL.nil
                  delta oq10_19_10
                  go_simp
                  have hbs : w.heap.size ≤ V8.heap.size := WW.size
                  have hc := concat_any _ k1 (k - (k1 + 1)) ex (ex - (k1 + 1)) ad ad _ _ V8 BL (HRA.out _ WW) (HRB.out _ WW) HLA.out HLB.out (by omega) (by omega)
                  refine hc.mono ?_
                  clear hc
                  rintro e V9 ⟨vr, rfl, hrow, hb⟩
                  replace XC := XC.below hb XC.lt
                  replace OT := OT.below hb OT.lt
                  replace BL := BL.below hb BL.lt
                  replace WW := WW.trans (hb.mono WW.size)
                  have sz9 := hb.size
                  obtain ⟨PR, cr, rfl⟩ := row_slc hrow
                  have HRN := RowN.of hrow
                  clear hrow
                  clear hb hbs
                  refine hK.out _ _ (⟨(XC.cell 0).trans rfl, (XC.cell 1).trans rfl, (XC.cell 2).trans rfl⟩) (fun hHeld2 => ?_)
                  clear hK K hHeld
                  have hHeld := hHeld2
                  clear hHeld2
                  (try simp only [oq10_19_10, Act.put, List.setIfInBounds_toArray, List.set_cons_zero, List.set_cons_succ])
                  refine AnyL_take (i := 11) (oi := oq10_19_11) (v := ?_) rfl (by kernel_rfl) (by kernel_rfl) (by kernel_rfl) (by kernel_rfl) (fun _ _ _ h => h) (Or.inl ⟨by rfl, ?_⟩) (by assumption) ?_
                  rotate_left
                  · (delta oq10_19_11; intro ws hSw; (try dsimp only at hSw); (try go_simp); (try with_reducible rfl))
                  (try simp only [oq10_19_11, Act.put, List.setIfInBounds_toArray, List.set_cons_zero, List.set_cons_succ])
                  refine AnyL_ready (rs := [12]) (by kernel_rfl) (by simp) ?_
                  refine ReadyL.cons (o := oq10_19_12) rfl (fun K hK => ?_) ReadyL.nil
                  delta oq10_19_12
                  have fz := OT.frozen 2
                  have cz : V9.cell? ⟨wr.heap.size, 2, none⟩ = some (.slice (some ad) k ex) := (OT.cell 2).trans rfl
                  have lz := OT.lt
                  have lqXC := XC.lt
                  have lqOT := OT.lt
                  have lqBL := BL.lt
                  go_simp
                  replace XC := XC.far (p := ⟨wr.heap.size, 2, none⟩) (by simp <;> omega) (.slice PR (k1 + (k - (k1 + 1))) cr)
                  replace BL := BL.far (p := ⟨wr.heap.size, 2, none⟩) (by simp <;> omega) (.slice PR (k1 + (k - (k1 + 1))) cr)
                  have OT2 : Blk (V9.setCell ⟨wr.heap.size, 2, none⟩ (.slice PR (k1 + (k - (k1 + 1))) cr)) (wr.heap.size) 40 #[.slice A (nw a) c, .slice A' (nw b) d, .slice PR (k1 + (k - (k1 + 1))) cr] := OT.set_ 2 (.slice PR (k1 + (k - (k1 + 1))) cr)
                  clear OT
                  have OT := OT2
                  clear OT2
                  have HRN2 := HRN.far (p := ⟨wr.heap.size, 2, none⟩) (.inl (by simp <;> omega)) (.slice PR (k1 + (k - (k1 + 1))) cr)
                  clear HRN
                  have HRN := HRN2
                  clear HRN2
                  replace WW := WW.setCell (p := ⟨wr.heap.size, 2, none⟩) (by simp <;> omega) (.slice PR (k1 + (k - (k1 + 1))) cr)
                  refine hK.out _ _ (⟨(XC.cell 0).trans rfl, (XC.cell 1).trans rfl, (XC.cell 2).trans rfl⟩) (fun hHeld2 => ?_)
                  clear hK K hHeld fz cz lz
                  (try simp only [oq10_19_12, Act.put, List.setIfInBounds_toArray, List.set_cons_zero, List.set_cons_succ])
                  generalize hV : V9.setCell ⟨wr.heap.size, 2, none⟩ (.slice PR (k1 + (k - (k1 + 1))) cr) = V10 at hHeld2 WW XC OT BL HRN ⊢
                  clear hV
                  have hHeld := hHeld2
                  clear hHeld2
                  refine AnyL_done (by kernel_rfl) ?_ _
                  clear hHeld
                  have kXC0 : V10.cell? ⟨w.heap.size, 0, none⟩ = some (.slice A (nw a) c) := (XC.cell 0).trans rfl
                  have kXC1 : V10.cell? ⟨w.heap.size, 1, none⟩ = some (.slice A' (nw b) d) := (XC.cell 1).trans rfl
                  have kXC2 : V10.cell? ⟨w.heap.size, 2, none⟩ = some (.slice (some ad) k ex) := (XC.cell 2).trans rfl
                  have zXC := XC.lt
                  have kOT0 : V10.cell? ⟨wr.heap.size, 0, none⟩ = some (.slice A (nw a) c) := (OT.cell 0).trans rfl
                  have kOT1 : V10.cell? ⟨wr.heap.size, 1, none⟩ = some (.slice A' (nw b) d) := (OT.cell 1).trans rfl
                  have kOT2 : V10.cell? ⟨wr.heap.size, 2, none⟩ = some (.slice PR (k1 + (k - (k1 + 1))) cr) := (OT.cell 2).trans rfl
                  have zOT := OT.lt
                  have zBL := BL.lt
                  clear w1 w2 w3 w4 hfu BL lqb
                  have hUO := HRN.1
                  go_wp2_with fail
                  have qXCn := XC.lt
                  have qOTn := OT.lt
                  clear kXC0 kXC1 kXC2 zXC kOT0 kOT1 kOT2 zOT
                  have bw := (Below.refl V10.heap.size V10).alloc (Nat.le_refl _) (.cells #[.slice A (nw a) c, .slice A' (nw b) d, .slice (some ad) k ex] 40)
                  have ON := Blk.new V10 40 #[.slice A (nw a) c, .slice A' (nw b) d, .slice (some ad) k ex]
                  replace XC := XC.below bw XC.lt
                  replace OT := OT.below bw OT.lt
                  replace HRN := HRN.below bw
                  replace WW := WW.trans (bw.mono WW.size)
                  clear bw
                  generalize hV : V10.alloc (.cells #[.slice A (nw a) c, .slice A' (nw b) d, .slice (some ad) k ex] 40) = V11 at XC OT ON HRN WW ⊢
                  clear hV
                  have kXC0 : V11.cell? ⟨w.heap.size, 0, none⟩ = some (.slice A (nw a) c) := (XC.cell 0).trans rfl
                  have kXC1 : V11.cell? ⟨w.heap.size, 1, none⟩ = some (.slice A' (nw b) d) := (XC.cell 1).trans rfl
                  have kXC2 : V11.cell? ⟨w.heap.size, 2, none⟩ = some (.slice (some ad) k ex) := (XC.cell 2).trans rfl
                  have zXC := XC.lt
                  have kOT0 : V11.cell? ⟨wr.heap.size, 0, none⟩ = some (.slice A (nw a) c) := (OT.cell 0).trans rfl
                  have kOT1 : V11.cell? ⟨wr.heap.size, 1, none⟩ = some (.slice A' (nw b) d) := (OT.cell 1).trans rfl
                  have kOT2 : V11.cell? ⟨wr.heap.size, 2, none⟩ = some (.slice PR (k1 + (k - (k1 + 1))) cr) := (OT.cell 2).trans rfl
                  have zOT := OT.lt
                  have kON0 : V11.cell? ⟨V10.heap.size, 0, none⟩ = some (.slice A (nw a) c) := (ON.cell 0).trans rfl
                  have kON1 : V11.cell? ⟨V10.heap.size, 1, none⟩ = some (.slice A' (nw b) d) := (ON.cell 1).trans rfl
                  have kON2 : V11.cell? ⟨V10.heap.size, 2, none⟩ = some (.slice (some ad) k ex) := (ON.cell 2).trans rfl
                  have zON := ON.lt
                  go_wp2_with fail
                  have hbs : w.heap.size ≤ V11.heap.size := WW.size
                  have hc := rof_1s V11
                  refine hc.mono ?_
                  clear hc
                  rintro e V12 ⟨v, rfl, hv, hb⟩
                  clear kXC0 kXC1 kXC2 zXC kOT0 kOT1 kOT2 zOT kON0 kON1 kON2 zON
                  replace XC := XC.below hb XC.lt
                  replace OT := OT.below hb OT.lt
                  replace ON := ON.below hb ON.lt
                  replace HRN := HRN.below hb
                  replace WW := WW.trans (hb.mono WW.size)
                  obtain ⟨D30, d30, rfl, ho⟩ := hv
                  have O30 := ho.weak (b := w.heap.size) hbs
                  clear ho
                  have kXC0 : V12.cell? ⟨w.heap.size, 0, none⟩ = some (.slice A (nw a) c) := (XC.cell 0).trans rfl
                  have kXC1 : V12.cell? ⟨w.heap.size, 1, none⟩ = some (.slice A' (nw b) d) := (XC.cell 1).trans rfl
                  have kXC2 : V12.cell? ⟨w.heap.size, 2, none⟩ = some (.slice (some ad) k ex) := (XC.cell 2).trans rfl
                  have zXC := XC.lt
                  have kOT0 : V12.cell? ⟨wr.heap.size, 0, none⟩ = some (.slice A (nw a) c) := (OT.cell 0).trans rfl
                  have kOT1 : V12.cell? ⟨wr.heap.size, 1, none⟩ = some (.slice A' (nw b) d) := (OT.cell 1).trans rfl
                  have kOT2 : V12.cell? ⟨wr.heap.size, 2, none⟩ = some (.slice PR (k1 + (k - (k1 + 1))) cr) := (OT.cell 2).trans rfl
                  have zOT := OT.lt
                  have kON0 : V12.cell? ⟨V10.heap.size, 0, none⟩ = some (.slice A (nw a) c) := (ON.cell 0).trans rfl
                  have kON1 : V12.cell? ⟨V10.heap.size, 1, none⟩ = some (.slice A' (nw b) d) := (ON.cell 1).trans rfl
                  have kON2 : V12.cell? ⟨V10.heap.size, 2, none⟩ = some (.slice (some ad) k ex) := (ON.cell 2).trans rfl
                  have zON := ON.lt
                  clear hb hbs
                  have fON := ON.frozen 1
                  go_wp2_with fail
                  clear kXC0 kXC1 kXC2 zXC kOT0 kOT1 kOT2 zOT kON0 kON1 kON2 zON fON
                  have qXC := XC.lt
                  have qOT := OT.lt
                  replace XC := XC.far (p := ⟨V10.heap.size, 1, none⟩) (by simp <;> omega) (.slice D30 (nw 1) d30)
                  replace OT := OT.far (p := ⟨V10.heap.size, 1, none⟩) (by simp <;> omega) (.slice D30 (nw 1) d30)
                  replace O30 := O30.box (p := ⟨V10.heap.size, 1, none⟩) ON (by decide) (.slice D30 (nw 1) d30)
                  have ON2 : Blk (V12.setCell ⟨V10.heap.size, 1, none⟩ (.slice D30 (nw 1) d30)) (V10.heap.size) 40 #[.slice A (nw a) c, .slice D30 (nw 1) d30, .slice (some ad) k ex] := ON.set_ 1 (.slice D30 (nw 1) d30)
                  clear ON
                  have ON := ON2
                  clear ON2
                  replace HRN := HRN.far (p := ⟨V10.heap.size, 1, none⟩) (.inr hUO) (.slice D30 (nw 1) d30)
                  replace WW := WW.setCell (p := ⟨V10.heap.size, 1, none⟩) (by simp <;> omega) (.slice D30 (nw 1) d30)
                  generalize hV : V12.setCell ⟨V10.heap.size, 1, none⟩ (.slice D30 (nw 1) d30) = V90 at XC OT ON O30 HRN WW ⊢
                  clear hV
                  have kXC0 : V90.cell? ⟨w.heap.size, 0, none⟩ = some (.slice A (nw a) c) := (XC.cell 0).trans rfl
                  have kXC1 : V90.cell? ⟨w.heap.size, 1, none⟩ = some (.slice A' (nw b) d) := (XC.cell 1).trans rfl
                  have kXC2 : V90.cell? ⟨w.heap.size, 2, none⟩ = some (.slice (some ad) k ex) := (XC.cell 2).trans rfl
                  have zXC := XC.lt
                  have kOT0 : V90.cell? ⟨wr.heap.size, 0, none⟩ = some (.slice A (nw a) c) := (OT.cell 0).trans rfl
                  have kOT1 : V90.cell? ⟨wr.heap.size, 1, none⟩ = some (.slice A' (nw b) d) := (OT.cell 1).trans rfl
                  have kOT2 : V90.cell? ⟨wr.heap.size, 2, none⟩ = some (.slice PR (k1 + (k - (k1 + 1))) cr) := (OT.cell 2).trans rfl
                  have zOT := OT.lt
                  have kON0 : V90.cell? ⟨V10.heap.size, 0, none⟩ = some (.slice A (nw a) c) := (ON.cell 0).trans rfl
                  have kON1 : V90.cell? ⟨V10.heap.size, 1, none⟩ = some (.slice D30 (nw 1) d30) := (ON.cell 1).trans rfl
                  have kON2 : V90.cell? ⟨V10.heap.size, 2, none⟩ = some (.slice (some ad) k ex) := (ON.cell 2).trans rfl
                  have zON := ON.lt
                  have hkl : k1 < ps.length := by rw [HK.out]; exact hk1k
                  have HVO := hid (ver_other HVV.out hkl)
                  have HV1 := hid (ver_one (m' := nw 1) HVV.out (by omega))
                  have hba' : nw b ≤ 9223372036854775807 := by omega
                  have hna' : nw a ≤ 9223372036854775807 := by omega
                  have hbs : w.heap.size ≤ V90.heap.size := WW.size
                  have hc := verify_any _ _ _ _ V90 (cv_other (c := c) (d := d) (cr := cr) WW HK.out hk2 hk1k (HN0.out.up WW) (HB0.out.up WW) hna' hba' HTT.out HRN)
                  rw [HVO.out] at hc
                  refine hc.mono ?_
                  clear hc
                  rintro e V13 ⟨rfl, hb⟩
                  clear kXC0 kXC1 kXC2 zXC kOT0 kOT1 kOT2 zOT kON0 kON1 kON2 zON
                  replace O30 := O30.below hb (Nat.le_refl _)
                  replace XC := XC.below hb XC.lt
                  replace OT := OT.below hb OT.lt
                  replace ON := ON.below hb ON.lt
                  replace HRN := HRN.below hb
                  replace WW := WW.trans (hb.mono WW.size)
                  have kXC0 : V13.cell? ⟨w.heap.size, 0, none⟩ = some (.slice A (nw a) c) := (XC.cell 0).trans rfl
                  have kXC1 : V13.cell? ⟨w.heap.size, 1, none⟩ = some (.slice A' (nw b) d) := (XC.cell 1).trans rfl
                  have kXC2 : V13.cell? ⟨w.heap.size, 2, none⟩ = some (.slice (some ad) k ex) := (XC.cell 2).trans rfl
                  have zXC := XC.lt
                  have kOT0 : V13.cell? ⟨wr.heap.size, 0, none⟩ = some (.slice A (nw a) c) := (OT.cell 0).trans rfl
                  have kOT1 : V13.cell? ⟨wr.heap.size, 1, none⟩ = some (.slice A' (nw b) d) := (OT.cell 1).trans rfl
                  have kOT2 : V13.cell? ⟨wr.heap.size, 2, none⟩ = some (.slice PR (k1 + (k - (k1 + 1))) cr) := (OT.cell 2).trans rfl
                  have zOT := OT.lt
                  have kON0 : V13.cell? ⟨V10.heap.size, 0, none⟩ = some (.slice A (nw a) c) := (ON.cell 0).trans rfl
                  have kON1 : V13.cell? ⟨V10.heap.size, 1, none⟩ = some (.slice D30 (nw 1) d30) := (ON.cell 1).trans rfl
                  have kON2 : V13.cell? ⟨V10.heap.size, 2, none⟩ = some (.slice (some ad) k ex) := (ON.cell 2).trans rfl
                  have zON := ON.lt
                  clear hb hbs
                  go_wp2_with fail
                  have hbs : w.heap.size ≤ V13.heap.size := WW.size
                  have hc := verify_any _ _ _ _ V13 (cv_one (d1 := d30) HV.out WW O30.num)
                  rw [HV1.out] at hc
                  refine hc.mono ?_
                  clear hc
                  rintro e V14 ⟨rfl, hb⟩
                  clear kXC0 kXC1 kXC2 zXC kOT0 kOT1 kOT2 zOT kON0 kON1 kON2 zON
                  replace O30 := O30.below hb (Nat.le_refl _)
                  replace XC := XC.below hb XC.lt
                  replace OT := OT.below hb OT.lt
                  replace ON := ON.below hb ON.lt
                  replace HRN := HRN.below hb
                  replace WW := WW.trans (hb.mono WW.size)
                  have kXC0 : V14.cell? ⟨w.heap.size, 0, none⟩ = some (.slice A (nw a) c) := (XC.cell 0).trans rfl
                  have kXC1 : V14.cell? ⟨w.heap.size, 1, none⟩ = some (.slice A' (nw b) d) := (XC.cell 1).trans rfl
                  have kXC2 : V14.cell? ⟨w.heap.size, 2, none⟩ = some (.slice (some ad) k ex) := (XC.cell 2).trans rfl
                  have zXC := XC.lt
                  have kOT0 : V14.cell? ⟨wr.heap.size, 0, none⟩ = some (.slice A (nw a) c) := (OT.cell 0).trans rfl
                  have kOT1 : V14.cell? ⟨wr.heap.size, 1, none⟩ = some (.slice A' (nw b) d) := (OT.cell 1).trans rfl
                  have kOT2 : V14.cell? ⟨wr.heap.size, 2, none⟩ = some (.slice PR (k1 + (k - (k1 + 1))) cr) := (OT.cell 2).trans rfl
                  have zOT := OT.lt
                  have kON0 : V14.cell? ⟨V10.heap.size, 0, none⟩ = some (.slice A (nw a) c) := (ON.cell 0).trans rfl
                  have kON1 : V14.cell? ⟨V10.heap.size, 1, none⟩ = some (.slice D30 (nw 1) d30) := (ON.cell 1).trans rfl
                  have kON2 : V14.cell? ⟨V10.heap.size, 2, none⟩ = some (.slice (some ad) k ex) := (ON.cell 2).trans rfl
                  have zON := ON.lt
                  clear hb hbs
                  go_wp2_with fail
                  go_ret
                  exact ⟨rfl, WW⟩
                · have hfu : (ex = k1 + 1) = False := eq_false (fun e => hfull e.symm)
                  have hk1ex : k1 ≤ ex := by omega
                  clear hfull
                  go_wp2_with fail
                  have qXCo := XC.lt
                  clear kXC0 kXC1 kXC2 zXC
                  have bw := (Below.refl wr.heap.size wr).alloc (Nat.le_refl _) (.cells #[.slice A (nw a) c, .slice A' (nw b) d, .slice (some ad) k ex] 40)
                  have OT := Blk.new wr 40 #[.slice A (nw a) c, .slice A' (nw b) d, .slice (some ad) k ex]
                  replace XC := XC.below bw XC.lt
                  replace WW := WW.trans (bw.mono WW.size)
                  clear bw
                  generalize hV : wr.alloc (.cells #[.slice A (nw a) c, .slice A' (nw b) d, .slice (some ad) k ex] 40) = V6 at XC OT WW ⊢
                  clear hV
                  have kXC0 : V6.cell? ⟨w.heap.size, 0, none⟩ = some (.slice A (nw a) c) := (XC.cell 0).trans rfl
                  have kXC1 : V6.cell? ⟨w.heap.size, 1, none⟩ = some (.slice A' (nw b) d) := (XC.cell 1).trans rfl
                  have kXC2 : V6.cell? ⟨w.heap.size, 2, none⟩ = some (.slice (some ad) k ex) := (XC.cell 2).trans rfl
                  have zXC := XC.lt
                  have kOT0 : V6.cell? ⟨wr.heap.size, 0, none⟩ = some (.slice A (nw a) c) := (OT.cell 0).trans rfl
                  have kOT1 : V6.cell? ⟨wr.heap.size, 1, none⟩ = some (.slice A' (nw b) d) := (OT.cell 1).trans rfl
                  have kOT2 : V6.cell? ⟨wr.heap.size, 2, none⟩ = some (.slice (some ad) k ex) := (OT.cell 2).trans rfl
                  have zOT := OT.lt
                  go_wp2_with fail
                  have w1 : IntKind.i64.wrap (((k1 : Nat) : Int) + 1) = ((k1 : Nat) : Int) + 1 := IntWalk.i64_in _ (by omega)
                  have w2 : (0 : Int) ≤ ((k1 : Nat) : Int) + 1 := by omega
                  have w3 : (((k1 : Nat) : Int) + 1).toNat = k1 + 1 := by omega
                  have w4 : ((k1 : Nat) : Int) + 1 ≤ ((k : Nat) : Int) := by omega
                  have HRA : Hid (∀ V, Below w.heap.size w V → RowAt V V.heap.size ad (flat (trp X Y Z (List.range' 0 k1)))) := (show ∀ V, _ → _ from fun V hV => row_parts HK.out had HP.out HTT.out hV (by omega) rfl (fun j hj => by rw [Nat.zero_mul, Nat.zero_add]))
                  have HRB : Hid (∀ V, Below w.heap.size w V → RowAt V V.heap.size (ad.add ((k1 + 1) * 3)) (flat (trp X Y Z (List.range' (k1 + 1) (k - (k1 + 1)))))) := (show ∀ V, _ → _ from fun V hV => row_parts HK.out had HP.out HTT.out hV (by omega) (add_block _ _) (fun j hj => add_add2 _ _ _))
                  have HLA : Hid ((flat (trp X Y Z (List.range' 0 k1))).length = k1 * 3) := (show _ = _ by rw [trp_len]; simp)
                  have HLB : Hid ((flat (trp X Y Z (List.range' (k1 + 1) (k - (k1 + 1))))).length = (k - (k1 + 1)) * 3) := (show _ = _ by rw [trp_len]; simp)
                  have hk1000 : k ≤ 1000 := by rw [← HK.out]; exact ver_len HVV.out
                  have hst : (fun w' => w'.cell? ⟨w.heap.size, 0, none⟩ = some (.slice A (nw a) c) ∧ w'.cell? ⟨w.heap.size, 1, none⟩ = some (.slice A' (nw b) d) ∧ w'.cell? ⟨w.heap.size, 2, none⟩ = some (.slice (some ad) k ex)) V6.drew := ⟨(XC.cell 0).trans rfl, (XC.cell 1).trans rfl, (XC.cell 2).trans rfl⟩
                  clear kXC0 kXC1 kXC2 zXC kOT0 kOT1 kOT2 zOT
                  replace WW := WW.drew
                  replace XC : Blk V6.drew (w.heap.size) 40 #[.slice A (nw a) c, .slice A' (nw b) d, .slice (some ad) k ex] := XC
                  replace OT : Blk V6.drew (wr.heap.size) 40 #[.slice A (nw a) c, .slice A' (nw b) d, .slice (some ad) k ex] := OT
                  refine region_L 20 (fun w' => w'.cell? ⟨w.heap.size, 0, none⟩ = some (.slice A (nw a) c) ∧ w'.cell? ⟨w.heap.size, 1, none⟩ = some (.slice A' (nw b) d) ∧ w'.cell? ⟨w.heap.size, 2, none⟩ = some (.slice (some ad) k ex)) (by kernel_rfl) hst (fun hHeld => ?_)
                  clear hst
                  generalize hV : V6.drew = U6x0 at hHeld WW XC OT ⊢
                  clear hV
                  refine AnyL_take (i := 0) (oi := oq10_19_0) (v := ?_) rfl (by kernel_rfl) (by kernel_rfl) (by kernel_rfl) (by kernel_rfl) (fun _ _ _ h => h) (Or.inl ⟨by rfl, ?_⟩) (by assumption) ?_
                  rotate_left
                  · (delta oq10_19_0; intro ws hSw; (try dsimp only at hSw); (try go_simp); (try with_reducible rfl))
                  (try simp only [oq10_19_0, Act.put, List.setIfInBounds_toArray, List.set_cons_zero, List.set_cons_succ])
                  refine AnyL_take (i := 1) (oi := oq10_19_1) (v := ?_) rfl (by kernel_rfl) (by kernel_rfl) (by kernel_rfl) (by kernel_rfl) (fun _ _ _ h => h) (Or.inl ⟨by rfl, ?_⟩) (by assumption) ?_
                  rotate_left
                  · (delta oq10_19_1; intro ws hSw; (try dsimp only at hSw); (try go_simp); (try with_reducible rfl))
                  (try simp only [oq10_19_1, Act.put, List.setIfInBounds_toArray, List.set_cons_zero, List.set_cons_succ])
                  refine AnyL_take (i := 2) (oi := oq10_19_2) (v := ?_) rfl (by kernel_rfl) (by kernel_rfl) (by kernel_rfl) (by kernel_rfl) (fun _ _ _ h => h) (Or.inl ⟨by rfl, ?_⟩) (by assumption) ?_
                  rotate_left
                  · (delta oq10_19_2; intro ws hSw; (try dsimp only at hSw); (try go_simp); (try with_reducible rfl))
                  (try simp only [oq10_19_2, Act.put, List.setIfInBounds_toArray, List.set_cons_zero, List.set_cons_succ])
                  refine AnyL_take (i := 3) (oi := oq10_19_3) (v := ?_) rfl (by kernel_rfl) (by kernel_rfl) (by kernel_rfl) (by kernel_rfl) (fun _ _ _ h => h) (Or.inl ⟨by rfl, ?_⟩) (by assumption) ?_
                  rotate_left
                  · (delta oq10_19_3; intro ws hSw; (try dsimp only at hSw); (try go_simp); (try with_reducible rfl))
                  (try simp only [oq10_19_3, Act.put, List.setIfInBounds_toArray, List.set_cons_zero, List.set_cons_succ])
                  refine AnyL_take (i := 4) (oi := oq10_19_4) (v := ?_) rfl (by kernel_rfl) (by kernel_rfl) (by kernel_rfl) (by kernel_rfl) (fun _ _ _ h => h) (Or.inl ⟨by rfl, ?_⟩) (by assumption) ?_
                  rotate_left
                  · (delta oq10_19_4; intro ws hSw; (try dsimp only at hSw); (try go_simp); (try with_reducible rfl))
                  (try simp only [oq10_19_4, Act.put, List.setIfInBounds_toArray, List.set_cons_zero, List.set_cons_succ])
                  refine AnyL_take (i := 5) (oi := oq10_19_5) (v := ?_) rfl (by kernel_rfl) (by kernel_rfl) (by kernel_rfl) (by kernel_rfl) (fun _ _ _ h => h) (Or.inl ⟨by rfl, ?_⟩) (by assumption) ?_
                  rotate_left
                  · (delta oq10_19_5; intro ws hSw; (try dsimp only at hSw); (try go_simp); (try with_reducible rfl))
                  (try simp only [oq10_19_5, Act.put, List.setIfInBounds_toArray, List.set_cons_zero, List.set_cons_succ])
                  refine AnyL_take (i := 6) (oi := oq10_19_6) (v := ?_) rfl (by kernel_rfl) (by kernel_rfl) (by kernel_rfl) (by kernel_rfl) (fun _ _ _ h => h) (Or.inl ⟨by rfl, ?_⟩) (by assumption) ?_
                  rotate_left
                  · (delta oq10_19_6; intro ws hSw; (try dsimp only at hSw); (try go_simp); (try with_reducible rfl))
                  (try simp only [oq10_19_6, Act.put, List.setIfInBounds_toArray, List.set_cons_zero, List.set_cons_succ])
                  refine AnyL_take (i := 7) (oi := oq10_19_7) (v := ?_) rfl (by kernel_rfl) (by kernel_rfl) (by kernel_rfl) (by kernel_rfl) (fun _ _ _ h => h) (Or.inl ⟨by rfl, ?_⟩) (by assumption) ?_
                  rotate_left
                  · (delta oq10_19_7; intro ws hSw; (try dsimp only at hSw); (try go_simp); (try with_reducible rfl))
                  (try simp only [oq10_19_7, Act.put, List.setIfInBounds_toArray, List.set_cons_zero, List.set_cons_succ])
                  refine AnyL_take (i := 8) (oi := oq10_19_8) (v := ?_) rfl (by kernel_rfl) (by kernel_rfl) (by kernel_rfl) (by kernel_rfl) (fun _ _ _ h => h) (Or.inl ⟨by rfl, ?_⟩) (by assumption) ?_
                  rotate_left
                  · (delta oq10_19_8; intro ws hSw; (try dsimp only at hSw); (try go_simp); (try with_reducible rfl))
                  (try simp only [oq10_19_8, Act.put, List.setIfInBounds_toArray, List.set_cons_zero, List.set_cons_succ])
                  refine AnyL_ready (rs := [9]) (by kernel_rfl) (by simp) ?_
                  refine ReadyL.cons (o := oq10_19_9) rfl (fun K hK => ?_) ReadyL.nil
                  delta oq10_19_9
                  go_simp
                  have lqXC := XC.lt
                  have lqOT := OT.lt
                  have ba := (Below.refl U6x0.heap.size U6x0).alloc (Nat.le_refl _) (.cells #[.slice (some ad) k1 ex, .slice (some (ad.add ((k1 + 1) * 3))) (k - (k1 + 1)) (ex - (k1 + 1))] 38)
                  replace XC := XC.below ba XC.lt
                  replace OT := OT.below ba OT.lt
                  have BL := Blk.new U6x0 38 #[.slice (some ad) k1 ex, .slice (some (ad.add ((k1 + 1) * 3))) (k - (k1 + 1)) (ex - (k1 + 1))]
                  replace WW := WW.trans (ba.mono WW.size)
                  refine hK.out _ _ (⟨(XC.cell 0).trans rfl, (XC.cell 1).trans rfl, (XC.cell 2).trans rfl⟩) (fun hHeld2 => ?_)
                  clear hK K hHeld ba
                  (try simp only [oq10_19_9, Act.put, List.setIfInBounds_toArray, List.set_cons_zero, List.set_cons_succ])
                  generalize hV : U6x0.alloc (.cells #[.slice (some ad) k1 ex, .slice (some (ad.add ((k1 + 1) * 3))) (k - (k1 + 1)) (ex - (k1 + 1))] 38) = V8 at hHeld2 WW BL XC OT ⊢
                  clear hV
                  have hHeld := hHeld2
                  clear hHeld2
                  have lqb := BL.lt
                  refine AnyL_ready (rs := [10]) (by kernel_rfl) (by simp) ?_
                  refine ReadyL.cons (o := oq10_19_10) rfl (fun K hK => ?_) ReadyL.nil
                  delta oq10_19_10
                  go_simp
                  have hbs : w.heap.size ≤ V8.heap.size := WW.size
                  have hc := concat_any _ k1 (k - (k1 + 1)) ex (ex - (k1 + 1)) ad (ad.add ((k1 + 1) * 3)) _ _ V8 BL (HRA.out _ WW) (HRB.out _ WW) HLA.out HLB.out (by omega) (by omega)
                  refine hc.mono ?_
                  clear hc
                  rintro e V9 ⟨vr, rfl, hrow, hb⟩
                  replace XC := XC.below hb XC.lt
                  replace OT := OT.below hb OT.lt
                  replace BL := BL.below hb BL.lt
                  replace WW := WW.trans (hb.mono WW.size)
                  have sz9 := hb.size
                  obtain ⟨PR, cr, rfl⟩ := row_slc hrow
                  have HRN := RowN.of hrow
                  clear hrow
                  clear hb hbs
                  refine hK.out _ _ (⟨(XC.cell 0).trans rfl, (XC.cell 1).trans rfl, (XC.cell 2).trans rfl⟩) (fun hHeld2 => ?_)
                  clear hK K hHeld
                  have hHeld := hHeld2
                  clear hHeld2
                  (try simp only [oq10_19_10, Act.put, List.setIfInBounds_toArray, List.set_cons_zero, List.set_cons_succ])
                  refine AnyL_take (i := 11) (oi := oq10_19_11) (v := ?_) rfl (by kernel_rfl) (by kernel_rfl) (by kernel_rfl) (by kernel_rfl) (fun _ _ _ h => h) (Or.inl ⟨by rfl, ?_⟩) (by assumption) ?_
                  rotate_left
                  · (delta oq10_19_11; intro ws hSw; (try dsimp only at hSw); (try go_simp); (try with_reducible rfl))
                  (try simp only [oq10_19_11, Act.put, List.setIfInBounds_toArray, List.set_cons_zero, List.set_cons_succ])
                  refine AnyL_ready (rs := [12]) (by kernel_rfl) (by simp) ?_
                  refine ReadyL.cons (o := oq10_19_12) rfl (fun K hK => ?_) ReadyL.nil
                  delta oq10_19_12
                  have fz := OT.frozen 2
                  have cz : V9.cell? ⟨wr.heap.size, 2, none⟩ = some (.slice (some ad) k ex) := (OT.cell 2).trans rfl
                  have lz := OT.lt
                  have lqXC := XC.lt
                  have lqOT := OT.lt
                  have lqBL := BL.lt
                  go_simp
                  replace XC := XC.far (p := ⟨wr.heap.size, 2, none⟩) (by simp <;> omega) (.slice PR (k1 + (k - (k1 + 1))) cr)
                  replace BL := BL.far (p := ⟨wr.heap.size, 2, none⟩) (by simp <;> omega) (.slice PR (k1 + (k - (k1 + 1))) cr)
                  have OT2 : Blk (V9.setCell ⟨wr.heap.size, 2, none⟩ (.slice PR (k1 + (k - (k1 + 1))) cr)) (wr.heap.size) 40 #[.slice A (nw a) c, .slice A' (nw b) d, .slice PR (k1 + (k - (k1 + 1))) cr] := OT.set_ 2 (.slice PR (k1 + (k - (k1 + 1))) cr)
                  clear OT
                  have OT := OT2
                  clear OT2
                  have HRN2 := HRN.far (p := ⟨wr.heap.size, 2, none⟩) (.inl (by simp <;> omega)) (.slice PR (k1 + (k - (k1 + 1))) cr)
                  clear HRN
                  have HRN := HRN2
                  clear HRN2
                  replace WW := WW.setCell (p := ⟨wr.heap.size, 2, none⟩) (by simp <;> omega) (.slice PR (k1 + (k - (k1 + 1))) cr)
                  refine hK.out _ _ (⟨(XC.cell 0).trans rfl, (XC.cell 1).trans rfl, (XC.cell 2).trans rfl⟩) (fun hHeld2 => ?_)
                  clear hK K hHeld fz cz lz
                  (try simp only [oq10_19_12, Act.put, List.setIfInBounds_toArray, List.set_cons_zero, List.set_cons_succ])
                  generalize hV : V9.setCell ⟨wr.heap.size, 2, none⟩ (.slice PR (k1 + (k - (k1 + 1))) cr) = V10 at hHeld2 WW XC OT BL HRN ⊢
                  clear hV
                  have hHeld := hHeld2
                  clear hHeld2
                  refine AnyL_done (by kernel_rfl) ?_ _
                  clear hHeld
                  have kXC0 : V10.cell? ⟨w.heap.size, 0, none⟩ = some (.slice A (nw a) c) := (XC.cell 0).trans rfl
                  have kXC1 : V10.cell? ⟨w.heap.size, 1, none⟩ = some (.slice A' (nw b) d) := (XC.cell 1).trans rfl
                  have kXC2 : V10.cell? ⟨w.heap.size, 2, none⟩ = some (.slice (some ad) k ex) := (XC.cell 2).trans rfl
                  have zXC := XC.lt
                  have kOT0 : V10.cell? ⟨wr.heap.size, 0, none⟩ = some (.slice A (nw a) c) := (OT.cell 0).trans rfl
                  have kOT1 : V10.cell? ⟨wr.heap.size, 1, none⟩ = some (.slice A' (nw b) d) := (OT.cell 1).trans rfl
                  have kOT2 : V10.cell? ⟨wr.heap.size, 2, none⟩ = some (.slice PR (k1 + (k - (k1 + 1))) cr) := (OT.cell 2).trans rfl
                  have zOT := OT.lt
                  have zBL := BL.lt
                  clear w1 w2 w3 w4 hfu BL lqb
                  have hUO := HRN.1
                  go_wp2_with fail
                  have qXCn := XC.lt
                  have qOTn := OT.lt
                  clear kXC0 kXC1 kXC2 zXC kOT0 kOT1 kOT2 zOT
                  have bw := (Below.refl V10.heap.size V10).alloc (Nat.le_refl _) (.cells #[.slice A (nw a) c, .slice A' (nw b) d, .slice (some ad) k ex] 40)
                  have ON := Blk.new V10 40 #[.slice A (nw a) c, .slice A' (nw b) d, .slice (some ad) k ex]
                  replace XC := XC.below bw XC.lt
                  replace OT := OT.below bw OT.lt
                  replace HRN := HRN.below bw
                  replace WW := WW.trans (bw.mono WW.size)
                  clear bw
                  generalize hV : V10.alloc (.cells #[.slice A (nw a) c, .slice A' (nw b) d, .slice (some ad) k ex] 40) = V11 at XC OT ON HRN WW ⊢
                  clear hV
                  have kXC0 : V11.cell? ⟨w.heap.size, 0, none⟩ = some (.slice A (nw a) c) := (XC.cell 0).trans rfl
                  have kXC1 : V11.cell? ⟨w.heap.size, 1, none⟩ = some (.slice A' (nw b) d) := (XC.cell 1).trans rfl
                  have kXC2 : V11.cell? ⟨w.heap.size, 2, none⟩ = some (.slice (some ad) k ex) := (XC.cell 2).trans rfl
                  have zXC := XC.lt
                  have kOT0 : V11.cell? ⟨wr.heap.size, 0, none⟩ = some (.slice A (nw a) c) := (OT.cell 0).trans rfl
                  have kOT1 : V11.cell? ⟨wr.heap.size, 1, none⟩ = some (.slice A' (nw b) d) := (OT.cell 1).trans rfl
                  have kOT2 : V11.cell? ⟨wr.heap.size, 2, none⟩ = some (.slice PR (k1 + (k - (k1 + 1))) cr) := (OT.cell 2).trans rfl
                  have zOT := OT.lt
                  have kON0 : V11.cell? ⟨V10.heap.size, 0, none⟩ = some (.slice A (nw a) c) := (ON.cell 0).trans rfl
                  have kON1 : V11.cell? ⟨V10.heap.size, 1, none⟩ = some (.slice A' (nw b) d) := (ON.cell 1).trans rfl
                  have kON2 : V11.cell? ⟨V10.heap.size, 2, none⟩ = some (.slice (some ad) k ex) := (ON.cell 2).trans rfl
                  have zON := ON.lt
                  go_wp2_with fail
                  have hbs : w.heap.size ≤ V11.heap.size := WW.size
                  have hc := rof_1s V11
                  refine hc.mono ?_
                  clear hc
                  rintro e V12 ⟨v, rfl, hv, hb⟩
                  clear kXC0 kXC1 kXC2 zXC kOT0 kOT1 kOT2 zOT kON0 kON1 kON2 zON
                  replace XC := XC.below hb XC.lt
                  replace OT := OT.below hb OT.lt
                  replace ON := ON.below hb ON.lt
                  replace HRN := HRN.below hb
                  replace WW := WW.trans (hb.mono WW.size)
                  obtain ⟨D30, d30, rfl, ho⟩ := hv
                  have O30 := ho.weak (b := w.heap.size) hbs
                  clear ho
                  have kXC0 : V12.cell? ⟨w.heap.size, 0, none⟩ = some (.slice A (nw a) c) := (XC.cell 0).trans rfl
                  have kXC1 : V12.cell? ⟨w.heap.size, 1, none⟩ = some (.slice A' (nw b) d) := (XC.cell 1).trans rfl
                  have kXC2 : V12.cell? ⟨w.heap.size, 2, none⟩ = some (.slice (some ad) k ex) := (XC.cell 2).trans rfl
                  have zXC := XC.lt
                  have kOT0 : V12.cell? ⟨wr.heap.size, 0, none⟩ = some (.slice A (nw a) c) := (OT.cell 0).trans rfl
                  have kOT1 : V12.cell? ⟨wr.heap.size, 1, none⟩ = some (.slice A' (nw b) d) := (OT.cell 1).trans rfl
                  have kOT2 : V12.cell? ⟨wr.heap.size, 2, none⟩ = some (.slice PR (k1 + (k - (k1 + 1))) cr) := (OT.cell 2).trans rfl
                  have zOT := OT.lt
                  have kON0 : V12.cell? ⟨V10.heap.size, 0, none⟩ = some (.slice A (nw a) c) := (ON.cell 0).trans rfl
                  have kON1 : V12.cell? ⟨V10.heap.size, 1, none⟩ = some (.slice A' (nw b) d) := (ON.cell 1).trans rfl
                  have kON2 : V12.cell? ⟨V10.heap.size, 2, none⟩ = some (.slice (some ad) k ex) := (ON.cell 2).trans rfl
                  have zON := ON.lt
                  clear hb hbs
                  have fON := ON.frozen 1
                  go_wp2_with fail
                  clear kXC0 kXC1 kXC2 zXC kOT0 kOT1 kOT2 zOT kON0 kON1 kON2 zON fON
                  have qXC := XC.lt
                  have qOT := OT.lt
                  replace XC := XC.far (p := ⟨V10.heap.size, 1, none⟩) (by simp <;> omega) (.slice D30 (nw 1) d30)
                  replace OT := OT.far (p := ⟨V10.heap.size, 1, none⟩) (by simp <;> omega) (.slice D30 (nw 1) d30)
                  replace O30 := O30.box (p := ⟨V10.heap.size, 1, none⟩) ON (by decide) (.slice D30 (nw 1) d30)
                  have ON2 : Blk (V12.setCell ⟨V10.heap.size, 1, none⟩ (.slice D30 (nw 1) d30)) (V10.heap.size) 40 #[.slice A (nw a) c, .slice D30 (nw 1) d30, .slice (some ad) k ex] := ON.set_ 1 (.slice D30 (nw 1) d30)
                  clear ON
                  have ON := ON2
                  clear ON2
                  replace HRN := HRN.far (p := ⟨V10.heap.size, 1, none⟩) (.inr hUO) (.slice D30 (nw 1) d30)
                  replace WW := WW.setCell (p := ⟨V10.heap.size, 1, none⟩) (by simp <;> omega) (.slice D30 (nw 1) d30)
                  generalize hV : V12.setCell ⟨V10.heap.size, 1, none⟩ (.slice D30 (nw 1) d30) = V90 at XC OT ON O30 HRN WW ⊢
                  clear hV
                  have kXC0 : V90.cell? ⟨w.heap.size, 0, none⟩ = some (.slice A (nw a) c) := (XC.cell 0).trans rfl
                  have kXC1 : V90.cell? ⟨w.heap.size, 1, none⟩ = some (.slice A' (nw b) d) := (XC.cell 1).trans rfl
                  have kXC2 : V90.cell? ⟨w.heap.size, 2, none⟩ = some (.slice (some ad) k ex) := (XC.cell 2).trans rfl
                  have zXC := XC.lt
                  have kOT0 : V90.cell? ⟨wr.heap.size, 0, none⟩ = some (.slice A (nw a) c) := (OT.cell 0).trans rfl
                  have kOT1 : V90.cell? ⟨wr.heap.size, 1, none⟩ = some (.slice A' (nw b) d) := (OT.cell 1).trans rfl
                  have kOT2 : V90.cell? ⟨wr.heap.size, 2, none⟩ = some (.slice PR (k1 + (k - (k1 + 1))) cr) := (OT.cell 2).trans rfl
                  have zOT := OT.lt
                  have kON0 : V90.cell? ⟨V10.heap.size, 0, none⟩ = some (.slice A (nw a) c) := (ON.cell 0).trans rfl
                  have kON1 : V90.cell? ⟨V10.heap.size, 1, none⟩ = some (.slice D30 (nw 1) d30) := (ON.cell 1).trans rfl
                  have kON2 : V90.cell? ⟨V10.heap.size, 2, none⟩ = some (.slice (some ad) k ex) := (ON.cell 2).trans rfl
                  have zON := ON.lt
                  have hkl : k1 < ps.length := by rw [HK.out]; exact hk1k
                  have HVO := hid (ver_other HVV.out hkl)
                  have HV1 := hid (ver_one (m' := nw 1) HVV.out (by omega))
                  have hba' : nw b ≤ 9223372036854775807 := by omega
                  have hna' : nw a ≤ 9223372036854775807 := by omega
                  have hbs : w.heap.size ≤ V90.heap.size := WW.size
                  have hc := verify_any _ _ _ _ V90 (cv_other (c := c) (d := d) (cr := cr) WW HK.out hk2 hk1k (HN0.out.up WW) (HB0.out.up WW) hna' hba' HTT.out HRN)
                  rw [HVO.out] at hc
                  refine hc.mono ?_
                  clear hc
                  rintro e V13 ⟨rfl, hb⟩
                  clear kXC0 kXC1 kXC2 zXC kOT0 kOT1 kOT2 zOT kON0 kON1 kON2 zON
                  replace O30 := O30.below hb (Nat.le_refl _)
                  replace XC := XC.below hb XC.lt
                  replace OT := OT.below hb OT.lt
                  replace ON := ON.below hb ON.lt
                  replace HRN := HRN.below hb
                  replace WW := WW.trans (hb.mono WW.size)
                  have kXC0 : V13.cell? ⟨w.heap.size, 0, none⟩ = some (.slice A (nw a) c) := (XC.cell 0).trans rfl
                  have kXC1 : V13.cell? ⟨w.heap.size, 1, none⟩ = some (.slice A' (nw b) d) := (XC.cell 1).trans rfl
                  have kXC2 : V13.cell? ⟨w.heap.size, 2, none⟩ = some (.slice (some ad) k ex) := (XC.cell 2).trans rfl
                  have zXC := XC.lt
                  have kOT0 : V13.cell? ⟨wr.heap.size, 0, none⟩ = some (.slice A (nw a) c) := (OT.cell 0).trans rfl
                  have kOT1 : V13.cell? ⟨wr.heap.size, 1, none⟩ = some (.slice A' (nw b) d) := (OT.cell 1).trans rfl
                  have kOT2 : V13.cell? ⟨wr.heap.size, 2, none⟩ = some (.slice PR (k1 + (k - (k1 + 1))) cr) := (OT.cell 2).trans rfl
                  have zOT := OT.lt
                  have kON0 : V13.cell? ⟨V10.heap.size, 0, none⟩ = some (.slice A (nw a) c) := (ON.cell 0).trans rfl
                  have kON1 : V13.cell? ⟨V10.heap.size, 1, none⟩ = some (.slice D30 (nw 1) d30) := (ON.cell 1).trans rfl
                  have kON2 : V13.cell? ⟨V10.heap.size, 2, none⟩ = some (.slice (some ad) k ex) := (ON.cell 2).trans rfl
                  have zON := ON.lt
                  clear hb hbs
                  go_wp2_with fail
                  have hbs : w.heap.size ≤ V13.heap.size := WW.size
                  have hc := verify_any _ _ _ _ V13 (cv_one (d1 := d30) HV.out WW O30.num)
                  rw [HV1.out] at hc
                  refine hc.mono ?_
                  clear hc
                  rintro e V14 ⟨rfl, hb⟩
                  clear kXC0 kXC1 kXC2 zXC kOT0 kOT1 kOT2 zOT kON0 kON1 kON2 zON
                  replace O30 := O30.below hb (Nat.le_refl _)
                  replace XC := XC.below hb XC.lt
                  replace OT := OT.below hb OT.lt
                  replace ON := ON.below hb ON.lt
                  replace HRN := HRN.below hb
                  replace WW := WW.trans (hb.mono WW.size)
                  have kXC0 : V14.cell? ⟨w.heap.size, 0, none⟩ = some (.slice A (nw a) c) := (XC.cell 0).trans rfl
                  have kXC1 : V14.cell? ⟨w.heap.size, 1, none⟩ = some (.slice A' (nw b) d) := (XC.cell 1).trans rfl
                  have kXC2 : V14.cell? ⟨w.heap.size, 2, none⟩ = some (.slice (some ad) k ex) := (XC.cell 2).trans rfl
                  have zXC := XC.lt
                  have kOT0 : V14.cell? ⟨wr.heap.size, 0, none⟩ = some (.slice A (nw a) c) := (OT.cell 0).trans rfl
                  have kOT1 : V14.cell? ⟨wr.heap.size, 1, none⟩ = some (.slice A' (nw b) d) := (OT.cell 1).trans rfl
                  have kOT2 : V14.cell? ⟨wr.heap.size, 2, none⟩ = some (.slice PR (k1 + (k - (k1 + 1))) cr) := (OT.cell 2).trans rfl
                  have zOT := OT.lt
                  have kON0 : V14.cell? ⟨V10.heap.size, 0, none⟩ = some (.slice A (nw a) c) := (ON.cell 0).trans rfl
                  have kON1 : V14.cell? ⟨V10.heap.size, 1, none⟩ = some (.slice D30 (nw 1) d30) := (ON.cell 1).trans rfl
                  have kON2 : V14.cell? ⟨V10.heap.size, 2, none⟩ = some (.slice (some ad) k ex) := (ON.cell 2).trans rfl
                  have zON := ON.lt
                  clear hb hbs
                  go_wp2_with fail
                  go_ret
                  exact ⟨rfl, WW⟩
        · have l3 : decide (((a : Nat) : Int) < 2305843009213693952) = false := by simp; omega
          have ha63 : a ≤ 9223372036854775807 := by have := lt_bl a; have := Nat.pow_le_pow_right (n := 2) (by decide) hbl; omega
          clear hbl hlt
          go_wp2_with fail
          go_loopw [43] (fun i wr => ∃ (j : Nat), j ≤ k ∧ i = .int .i64 ((j : Nat) : Int) ∧ Below w.heap.size w wr ∧ Blk wr (w.heap.size) 40 #[.slice A (nw a) c, .slice A' (nw b) d, .slice P k ex]) (fun i wr => k - (intOf i).toNat)
          case atStart => exact ⟨0, by omega, by go_num, WW, XC⟩
          case round =>
            clear WW kXC0 kXC1 kXC2 zXC XC
            obtain ⟨j, hjk0, rfl, WW, XC⟩ := hrel
            have kXC0 : wr.cell? ⟨w.heap.size, 0, none⟩ = some (.slice A (nw a) c) := (XC.cell 0).trans rfl
            have kXC1 : wr.cell? ⟨w.heap.size, 1, none⟩ = some (.slice A' (nw b) d) := (XC.cell 1).trans rfl
            have kXC2 : wr.cell? ⟨w.heap.size, 2, none⟩ = some (.slice P k ex) := (XC.cell 2).trans rfl
            have zXC := XC.lt
            by_cases hjk : j < k
            · have l1 : decide (((j : Nat) : Int) < ((k : Nat) : Int)) = true := by simp; omega
              obtain ⟨hl, ad, A1, A2, A3, c1, n2, c2, n3, c3, e, q0, q1, q2, HN1, hn1, hx⟩ := HPV.out.part hjk WW
              obtain ⟨n1, hn1'⟩ : ∃ x, x = ps[j].wds := ⟨_, rfl⟩
              obtain ⟨a1, ha1⟩ : ∃ x, x = ps[j].val := ⟨_, rfl⟩
              rw [← hn1'] at q0 HN1 hn1 hx
              rw [← ha1] at HN1
              have HW1 := hid hn1'
              have HA1 := hid ha1
              have HX := hid hx
              have HN := hid HN1
              clear hn1' ha1 hx HN1
              subst e
              have HVJ := hid (ver_part HVV.out hl)
              obtain ⟨pj, hpj⟩ : ∃ p, p = ps[j] := ⟨_, rfl⟩
              rw [← hpj] at HX HVJ
              clear hpj
              go_wp2_with fail
              clear kXC0 kXC1 kXC2 zXC
              have bw := (Below.refl wr.heap.size wr).alloc (Nat.le_refl _) (.cells #[.slice A1 n1 c1, .slice A2 n2 c2, .slice A3 n3 c3] 40)
              have XP := Blk.new wr 40 #[.slice A1 n1 c1, .slice A2 n2 c2, .slice A3 n3 c3]
              replace XC := XC.below bw XC.lt
              replace WW := WW.trans (bw.mono WW.size)
              clear bw
              generalize hV : wr.alloc (.cells #[.slice A1 n1 c1, .slice A2 n2 c2, .slice A3 n3 c3] 40) = V5 at XC XP WW ⊢
              clear hV
              have kXC0 : V5.cell? ⟨w.heap.size, 0, none⟩ = some (.slice A (nw a) c) := (XC.cell 0).trans rfl
              have kXC1 : V5.cell? ⟨w.heap.size, 1, none⟩ = some (.slice A' (nw b) d) := (XC.cell 1).trans rfl
              have kXC2 : V5.cell? ⟨w.heap.size, 2, none⟩ = some (.slice (some ad) k ex) := (XC.cell 2).trans rfl
              have zXC := XC.lt
              have kXP0 : V5.cell? ⟨wr.heap.size, 0, none⟩ = some (.slice A1 n1 c1) := (XP.cell 0).trans rfl
              have kXP1 : V5.cell? ⟨wr.heap.size, 1, none⟩ = some (.slice A2 n2 c2) := (XP.cell 1).trans rfl
              have kXP2 : V5.cell? ⟨wr.heap.size, 2, none⟩ = some (.slice A3 n3 c3) := (XP.cell 2).trans rfl
              have zXP := XP.lt
              go_wp2_with fail
              have hbs : w.heap.size ≤ V5.heap.size := WW.size
              have hc := verify_any pj _ _ _ V5 (HX.out.go WW)
              rw [HVJ.out] at hc
              refine hc.mono ?_
              clear hc
              rintro e V6 ⟨rfl, hb⟩
              clear kXC0 kXC1 kXC2 zXC kXP0 kXP1 kXP2 zXP
              replace XC := XC.below hb XC.lt
              replace XP := XP.below hb XP.lt
              replace WW := WW.trans (hb.mono WW.size)
              have kXC0 : V6.cell? ⟨w.heap.size, 0, none⟩ = some (.slice A (nw a) c) := (XC.cell 0).trans rfl
              have kXC1 : V6.cell? ⟨w.heap.size, 1, none⟩ = some (.slice A' (nw b) d) := (XC.cell 1).trans rfl
              have kXC2 : V6.cell? ⟨w.heap.size, 2, none⟩ = some (.slice (some ad) k ex) := (XC.cell 2).trans rfl
              have zXC := XC.lt
              have kXP0 : V6.cell? ⟨wr.heap.size, 0, none⟩ = some (.slice A1 n1 c1) := (XP.cell 0).trans rfl
              have kXP1 : V6.cell? ⟨wr.heap.size, 1, none⟩ = some (.slice A2 n2 c2) := (XP.cell 1).trans rfl
              have kXP2 : V6.cell? ⟨wr.heap.size, 2, none⟩ = some (.slice A3 n3 c3) := (XP.cell 2).trans rfl
              have zXP := XP.lt
              clear hb hbs
              go_wp2_with fail
              go_roundw
              case rel => exact ⟨j + 1, by omega, by go_num, WW, XC⟩
              case measure => simp [intOf] <;> omega
            · have l1 : decide (((j : Nat) : Int) < ((k : Nat) : Int)) = false := by simp; omega
              by_cases hk0 : k = 0
              · have hps : ps = [] := List.eq_nil_of_length_eq_zero (by rw [HK.out]; exact hk0)
                have h2 := HVV.out
                rw [hps] at h2
                obtain ⟨ea, _, _⟩ := ver_none h2
                have l2 : (((k : Nat) : Int) == 0) = true := by rw [hk0]; rfl
                have HS2 : Hid (sameR (nw a) a (nw 2) 2 = true) := (show _ = _ by rw [ea]; exact sameR_yes rfl rfl)
                clear ea h2 hps hk0
                go_wp2_with fail
                have hst : (fun w' => w'.cell? ⟨w.heap.size, 0, none⟩ = some (.slice A (nw a) c) ∧ w'.cell? ⟨w.heap.size, 1, none⟩ = some (.slice A' (nw b) d) ∧ w'.cell? ⟨w.heap.size, 2, none⟩ = some (.slice P k ex)) wr.drew := ⟨(XC.cell 0).trans rfl, (XC.cell 1).trans rfl, (XC.cell 2).trans rfl⟩
                clear kXC0 kXC1 kXC2 zXC
                replace WW := WW.drew
                replace XC : Blk wr.drew (w.heap.size) 40 #[.slice A (nw a) c, .slice A' (nw b) d, .slice P k ex] := XC
                refine region_L 12 (fun w' => w'.cell? ⟨w.heap.size, 0, none⟩ = some (.slice A (nw a) c) ∧ w'.cell? ⟨w.heap.size, 1, none⟩ = some (.slice A' (nw b) d) ∧ w'.cell? ⟨w.heap.size, 2, none⟩ = some (.slice P k ex)) (by kernel_rfl) hst (fun hHeld => ?_)
                clear hst
                generalize hV : wr.drew = U4x0 at hHeld WW XC ⊢
                clear hV
                refine AnyL_take (i := 0) (oi := oq10_16_0) (v := ?_) rfl (by kernel_rfl) (by kernel_rfl) (by kernel_rfl) (by kernel_rfl) (fun _ _ _ h => h) (Or.inl ⟨by rfl, ?_⟩) (by assumption) ?_
                rotate_left
                · (delta oq10_16_0; intro ws hSw; (try dsimp only at hSw); (try go_simp); (try with_reducible rfl))
                (try simp only [oq10_16_0, Act.put, List.setIfInBounds_toArray, List.set_cons_zero, List.set_cons_succ])
                refine AnyL_take (i := 1) (oi := oq10_16_1) (v := ?_) rfl (by kernel_rfl) (by kernel_rfl) (by kernel_rfl) (by kernel_rfl) (fun _ _ _ h => h) (Or.inl ⟨by rfl, ?_⟩) (by assumption) ?_
                rotate_left
                · (delta oq10_16_1; intro ws hSw; (try dsimp only at hSw); (try go_simp); (try with_reducible rfl))
                (try simp only [oq10_16_1, Act.put, List.setIfInBounds_toArray, List.set_cons_zero, List.set_cons_succ])
                refine AnyL_ready (rs := [2]) (by kernel_rfl) (by simp) ?_
                refine ReadyL.cons (o := oq10_16_2) rfl (fun K hK => ?_) ReadyL.nil
                delta oq10_16_2
                go_simp
                have hbs : w.heap.size ≤ U4x0.heap.size := WW.size
                have hc := rof_2 U4x0
                refine hc.mono ?_
                clear hc
                rintro e V6 ⟨v, rfl, hv, hb⟩
                replace XC := XC.below hb XC.lt
                replace WW := WW.trans (hb.mono WW.size)
                have sz6 := hb.size
                obtain ⟨D1, d1, rfl, ho⟩ := hv
                have O1 := ho.weak (b := w.heap.size) hbs
                clear ho
                clear hb hbs
                refine hK.out _ _ (⟨(XC.cell 0).trans rfl, (XC.cell 1).trans rfl, (XC.cell 2).trans rfl⟩) (fun hHeld2 => ?_)
                clear hK K hHeld
                have hHeld := hHeld2
                clear hHeld2
                (try simp only [oq10_16_2, Act.put, List.setIfInBounds_toArray, List.set_cons_zero, List.set_cons_succ])
                refine AnyL_ready (rs := [3]) (by kernel_rfl) (by simp) ?_
                refine ReadyL.cons (o := oq10_16_3) rfl (fun K hK => ?_) ReadyL.nil
                delta oq10_16_3
                go_simp
                have hbs : w.heap.size ≤ V6.heap.size := WW.size
                have hc := rsame_any A D1 (nw a) (nw 2) c d1 a 2 V6 (HN0.out.up WW) O1.num (by omega) (by decide)
                rw [HS2.out] at hc
                refine hc.mono ?_
                clear hc
                rintro e V7 ⟨rfl, hb⟩
                replace O1 := O1.below hb (Nat.le_refl _)
                replace XC := XC.below hb XC.lt
                replace WW := WW.trans (hb.mono WW.size)
                have sz7 := hb.size
                clear hb hbs
                refine hK.out _ _ (⟨(XC.cell 0).trans rfl, (XC.cell 1).trans rfl, (XC.cell 2).trans rfl⟩) (fun hHeld2 => ?_)
                clear hK K hHeld
                have hHeld := hHeld2
                clear hHeld2
                (try simp only [oq10_16_3, Act.put, List.setIfInBounds_toArray, List.set_cons_zero, List.set_cons_succ])
                refine AnyL_take (i := 4) (oi := oq10_16_4) (v := ?_) rfl (by kernel_rfl) (by kernel_rfl) (by kernel_rfl) (by kernel_rfl) (fun _ _ _ h => h) (Or.inl ⟨by rfl, ?_⟩) (by assumption) ?_
                rotate_left
                · (delta oq10_16_4; intro ws hSw; (try dsimp only at hSw); (try go_simp); (try with_reducible rfl))
                (try simp only [oq10_16_4, Act.put, List.setIfInBounds_toArray, List.set_cons_zero, List.set_cons_succ])
                refine AnyL_done (by kernel_rfl) ?_ _
                clear hHeld
                have kXC0 : V7.cell? ⟨w.heap.size, 0, none⟩ = some (.slice A (nw a) c) := (XC.cell 0).trans rfl
                have kXC1 : V7.cell? ⟨w.heap.size, 1, none⟩ = some (.slice A' (nw b) d) := (XC.cell 1).trans rfl
                have kXC2 : V7.cell? ⟨w.heap.size, 2, none⟩ = some (.slice P k ex) := (XC.cell 2).trans rfl
                have zXC := XC.lt
                go_wp2_with fail
                go_ret
                exact ⟨rfl, WW⟩
              · have l2 : (((k : Nat) : Int) == 0) = false := by simp; omega
                obtain ⟨ad, e0, had, _⟩ := HP.out 0 (by omega)
                subst e0
                obtain ⟨k1, hk1⟩ : ∃ x, x = q0 % k := ⟨_, rfl⟩
                have hk1k : k1 < k := by rw [hk1]; exact Nat.mod_lt _ (by omega)
                have tr : Int.tmod ((q0 : Nat) : Int) ((k : Nat) : Int) = ((k1 : Nat) : Int) := by rw [hk1]; rfl
                have hz : decide (((k : Nat) : Int) = 0) = false := by simp; omega
                clear hk1
                have hk1k2 : ((k1 : Nat) : Int) < ((k : Nat) : Int) := by omega
                by_cases hfull : k1 + 1 = ex
                · have hfu : (ex = k1 + 1) = True := eq_true hfull.symm
                  have hk1ex : k1 ≤ ex := by omega
                  clear hfull
                  go_wp2_with fail
                  have qXCo := XC.lt
                  clear kXC0 kXC1 kXC2 zXC
                  have bw := (Below.refl wr.heap.size wr).alloc (Nat.le_refl _) (.cells #[.slice A (nw a) c, .slice A' (nw b) d, .slice (some ad) k ex] 40)
                  have OT := Blk.new wr 40 #[.slice A (nw a) c, .slice A' (nw b) d, .slice (some ad) k ex]
                  replace XC := XC.below bw XC.lt
                  replace WW := WW.trans (bw.mono WW.size)
                  clear bw
                  generalize hV : wr.alloc (.cells #[.slice A (nw a) c, .slice A' (nw b) d, .slice (some ad) k ex] 40) = V5 at XC OT WW ⊢
                  clear hV
                  have kXC0 : V5.cell? ⟨w.heap.size, 0, none⟩ = some (.slice A (nw a) c) := (XC.cell 0).trans rfl
                  have kXC1 : V5.cell? ⟨w.heap.size, 1, none⟩ = some (.slice A' (nw b) d) := (XC.cell 1).trans rfl
                  have kXC2 : V5.cell? ⟨w.heap.size, 2, none⟩ = some (.slice (some ad) k ex) := (XC.cell 2).trans rfl
                  have zXC := XC.lt
                  have kOT0 : V5.cell? ⟨wr.heap.size, 0, none⟩ = some (.slice A (nw a) c) := (OT.cell 0).trans rfl
                  have kOT1 : V5.cell? ⟨wr.heap.size, 1, none⟩ = some (.slice A' (nw b) d) := (OT.cell 1).trans rfl
                  have kOT2 : V5.cell? ⟨wr.heap.size, 2, none⟩ = some (.slice (some ad) k ex) := (OT.cell 2).trans rfl
                  have zOT := OT.lt
                  go_wp2_with fail
                  have w1 : IntKind.i64.wrap (((k1 : Nat) : Int) + 1) = ((k1 : Nat) : Int) + 1 := IntWalk.i64_in _ (by omega)
                  have w2 : (0 : Int) ≤ ((k1 : Nat) : Int) + 1 := by omega
                  have w3 : (((k1 : Nat) : Int) + 1).toNat = k1 + 1 := by omega
                  have w4 : ((k1 : Nat) : Int) + 1 ≤ ((k : Nat) : Int) := by omega
                  have HRA : Hid (∀ V, Below w.heap.size w V → RowAt V V.heap.size ad (flat (trp X Y Z (List.range' 0 k1)))) := (show ∀ V, _ → _ from fun V hV => row_parts HK.out had HP.out HTT.out hV (by omega) rfl (fun j hj => by rw [Nat.zero_mul, Nat.zero_add]))
                  have HRB : Hid (∀ V, Below w.heap.size w V → RowAt V V.heap.size ad (flat (trp X Y Z (List.range' (k1 + 1) (k - (k1 + 1)))))) := (show ∀ V, _ → _ from fun V hV => row_parts HK.out had HP.out HTT.out hV (by omega) rfl (fun j hj => absurd hj (by have := of_eq_true hfu; omega)))
                  have HLA : Hid ((flat (trp X Y Z (List.range' 0 k1))).length = k1 * 3) := (show _ = _ by rw [trp_len]; simp)
                  have HLB : Hid ((flat (trp X Y Z (List.range' (k1 + 1) (k - (k1 + 1))))).length = (k - (k1 + 1)) * 3) := (show _ = _ by rw [trp_len]; simp)
                  have hk1000 : k ≤ 1000 := by rw [← HK.out]; exact ver_len HVV.out
                  have hst : (fun w' => w'.cell? ⟨w.heap.size, 0, none⟩ = some (.slice A (nw a) c) ∧ w'.cell? ⟨w.heap.size, 1, none⟩ = some (.slice A' (nw b) d) ∧ w'.cell? ⟨w.heap.size, 2, none⟩ = some (.slice (some ad) k ex)) V5.drew := ⟨(XC.cell 0).trans rfl, (XC.cell 1).trans rfl, (XC.cell 2).trans rfl⟩
                  clear kXC0 kXC1 kXC2 zXC kOT0 kOT1 kOT2 zOT
                  replace WW := WW.drew
                  replace XC : Blk V5.drew (w.heap.size) 40 #[.slice A (nw a) c, .slice A' (nw b) d, .slice (some ad) k ex] := XC
                  replace OT : Blk V5.drew (wr.heap.size) 40 #[.slice A (nw a) c, .slice A' (nw b) d, .slice (some ad) k ex] := OT
                  refine region_L 20 (fun w' => w'.cell? ⟨w.heap.size, 0, none⟩ = some (.slice A (nw a) c) ∧ w'.cell? ⟨w.heap.size, 1, none⟩ = some (.slice A' (nw b) d) ∧ w'.cell? ⟨w.heap.size, 2, none⟩ = some (.slice (some ad) k ex)) (by kernel_rfl) hst (fun hHeld => ?_)
                  clear hst
                  generalize hV : V5.drew = U5x0 at hHeld WW XC OT ⊢
                  clear hV
                  refine AnyL_take (i := 0) (oi := oq10_19_0) (v := ?_) rfl (by kernel_rfl) (by kernel_rfl) (by kernel_rfl) (by kernel_rfl) (fun _ _ _ h => h) (Or.inl ⟨by rfl, ?_⟩) (by assumption) ?_
                  rotate_left
                  · (delta oq10_19_0; intro ws hSw; (try dsimp only at hSw); (try go_simp); (try with_reducible rfl))
                  (try simp only [oq10_19_0, Act.put, List.setIfInBounds_toArray, List.set_cons_zero, List.set_cons_succ])
                  refine AnyL_take (i := 1) (oi := oq10_19_1) (v := ?_) rfl (by kernel_rfl) (by kernel_rfl) (by kernel_rfl) (by kernel_rfl) (fun _ _ _ h => h) (Or.inl ⟨by rfl, ?_⟩) (by assumption) ?_
                  rotate_left
                  · (delta oq10_19_1; intro ws hSw; (try dsimp only at hSw); (try go_simp); (try with_reducible rfl))
                  (try simp only [oq10_19_1, Act.put, List.setIfInBounds_toArray, List.set_cons_zero, List.set_cons_succ])
                  refine AnyL_take (i := 2) (oi := oq10_19_2) (v := ?_) rfl (by kernel_rfl) (by kernel_rfl) (by kernel_rfl) (by kernel_rfl) (fun _ _ _ h => h) (Or.inl ⟨by rfl, ?_⟩) (by assumption) ?_
                  rotate_left
                  · (delta oq10_19_2; intro ws hSw; (try dsimp only at hSw); (try go_simp); (try with_reducible rfl))
                  (try simp only [oq10_19_2, Act.put, List.setIfInBounds_toArray, List.set_cons_zero, List.set_cons_succ])
                  refine AnyL_take (i := 3) (oi := oq10_19_3) (v := ?_) rfl (by kernel_rfl) (by kernel_rfl) (by kernel_rfl) (by kernel_rfl) (fun _ _ _ h => h) (Or.inl ⟨by rfl, ?_⟩) (by assumption) ?_
                  rotate_left
                  · (delta oq10_19_3; intro ws hSw; (try dsimp only at hSw); (try go_simp); (try with_reducible rfl))
                  (try simp only [oq10_19_3, Act.put, List.setIfInBounds_toArray, List.set_cons_zero, List.set_cons_succ])
                  refine AnyL_take (i := 4) (oi := oq10_19_4) (v := ?_) rfl (by kernel_rfl) (by kernel_rfl) (by kernel_rfl) (by kernel_rfl) (fun _ _ _ h => h) (Or.inl ⟨by rfl, ?_⟩) (by assumption) ?_
                  rotate_left
                  · (delta oq10_19_4; intro ws hSw; (try dsimp only at hSw); (try go_simp); (try with_reducible rfl))
                  (try simp only [oq10_19_4, Act.put, List.setIfInBounds_toArray, List.set_cons_zero, List.set_cons_succ])
                  refine AnyL_take (i := 5) (oi := oq10_19_5) (v := ?_) rfl (by kernel_rfl) (by kernel_rfl) (by kernel_rfl) (by kernel_rfl) (fun _ _ _ h => h) (Or.inl ⟨by rfl, ?_⟩) (by assumption) ?_
                  rotate_left
                  · (delta oq10_19_5; intro ws hSw; (try dsimp only at hSw); (try go_simp); (try with_reducible rfl))
                  (try simp only [oq10_19_5, Act.put, List.setIfInBounds_toArray, List.set_cons_zero, List.set_cons_succ])
                  refine AnyL_take (i := 6) (oi := oq10_19_6) (v := ?_) rfl (by kernel_rfl) (by kernel_rfl) (by kernel_rfl) (by kernel_rfl) (fun _ _ _ h => h) (Or.inl ⟨by rfl, ?_⟩) (by assumption) ?_
                  rotate_left
                  · (delta oq10_19_6; intro ws hSw; (try dsimp only at hSw); (try go_simp); (try with_reducible rfl))
                  (try simp only [oq10_19_6, Act.put, List.setIfInBounds_toArray, List.set_cons_zero, List.set_cons_succ])
                  refine AnyL_take (i := 7) (oi := oq10_19_7) (v := ?_) rfl (by kernel_rfl) (by kernel_rfl) (by kernel_rfl) (by kernel_rfl) (fun _ _ _ h => h) (Or.inl ⟨by rfl, ?_⟩) (by assumption) ?_
                  rotate_left
                  · (delta oq10_19_7; intro ws hSw; (try dsimp only at hSw); (try go_simp); (try with_reducible rfl))
                  (try simp only [oq10_19_7, Act.put, List.setIfInBounds_toArray, List.set_cons_zero, List.set_cons_succ])
                  refine AnyL_take (i := 8) (oi := oq10_19_8) (v := ?_) rfl (by kernel_rfl) (by kernel_rfl) (by kernel_rfl) (by kernel_rfl) (fun _ _ _ h => h) (Or.inl ⟨by rfl, ?_⟩) (by assumption) ?_
                  rotate_left
                  · (delta oq10_19_8; intro ws hSw; (try dsimp only at hSw); (try go_simp); (try with_reducible rfl))
                  (try simp only [oq10_19_8, Act.put, List.setIfInBounds_toArray, List.set_cons_zero, List.set_cons_succ])
                  refine AnyL_ready (rs := [9]) (by kernel_rfl) (by simp) ?_
                  refine ReadyL.cons (o := oq10_19_9) rfl (fun K hK => ?_) ReadyL.nil
                  delta oq10_19_9
                  go_simp
                  have lqXC := XC.lt
                  have lqOT := OT.lt
                  have ba := (Below.refl U5x0.heap.size U5x0).alloc (Nat.le_refl _) (.cells #[.slice (some ad) k1 ex, .slice (some ad) (k - (k1 + 1)) (ex - (k1 + 1))] 38)
                  replace XC := XC.below ba XC.lt
                  replace OT := OT.below ba OT.lt
                  have BL := Blk.new U5x0 38 #[.slice (some ad) k1 ex, .slice (some ad) (k - (k1 + 1)) (ex - (k1 + 1))]
                  replace WW := WW.trans (ba.mono WW.size)
                  refine hK.out _ _ (⟨(XC.cell 0).trans rfl, (XC.cell 1).trans rfl, (XC.cell 2).trans rfl⟩) (fun hHeld2 => ?_)
                  clear hK K hHeld ba
                  (try simp only [oq10_19_9, Act.put, List.setIfInBounds_toArray, List.set_cons_zero, List.set_cons_succ])
                  generalize hV : U5x0.alloc (.cells #[.slice (some ad) k1 ex, .slice (some ad) (k - (k1 + 1)) (ex - (k1 + 1))] 38) = V7 at hHeld2 WW BL XC OT ⊢
                  clear hV
                  have hHeld := hHeld2
                  clear hHeld2
                  have lqb := BL.lt
                  refine AnyL_ready (rs := [10]) (by kernel_rfl) (by simp) ?_
                  refine ReadyL.cons (o := oq10_19_10) rfl (fun K hK => ?_) ReadyL.nil
                  delta oq10_19_10
                  go_simp
                  have hbs : w.heap.size ≤ V7.heap.size := WW.size
                  have hc := concat_any _ k1 (k - (k1 + 1)) ex (ex - (k1 + 1)) ad ad _ _ V7 BL (HRA.out _ WW) (HRB.out _ WW) HLA.out HLB.out (by omega) (by omega)
                  refine hc.mono ?_
                  clear hc
                  rintro e V8 ⟨vr, rfl, hrow, hb⟩
                  replace XC := XC.below hb XC.lt
                  replace OT := OT.below hb OT.lt
                  replace BL := BL.below hb BL.lt
                  replace WW := WW.trans (hb.mono WW.size)
                  have sz8 := hb.size
                  obtain ⟨PR, cr, rfl⟩ := row_slc hrow
                  have HRN := RowN.of hrow
                  clear hrow
                  clear hb hbs
                  refine hK.out _ _ (⟨(XC.cell 0).trans rfl, (XC.cell 1).trans rfl, (XC.cell 2).trans rfl⟩) (fun hHeld2 => ?_)
                  clear hK K hHeld
                  have hHeld := hHeld2
                  clear hHeld2
                  (try simp only [oq10_19_10, Act.put, List.setIfInBounds_toArray, List.set_cons_zero, List.set_cons_succ])
                  refine AnyL_take (i := 11) (oi := oq10_19_11) (v := ?_) rfl (by kernel_rfl) (by kernel_rfl) (by kernel_rfl) (by kernel_rfl) (fun _ _ _ h => h) (Or.inl ⟨by rfl, ?_⟩) (by assumption) ?_
                  rotate_left
                  · (delta oq10_19_11; intro ws hSw; (try dsimp only at hSw); (try go_simp); (try with_reducible rfl))
                  (try simp only [oq10_19_11, Act.put, List.setIfInBounds_toArray, List.set_cons_zero, List.set_cons_succ])
                  refine AnyL_ready (rs := [12]) (by kernel_rfl) (by simp) ?_
                  refine ReadyL.cons (o := oq10_19_12) rfl (fun K hK => ?_) ReadyL.nil
                  delta oq10_19_12
                  have fz := OT.frozen 2
                  have cz : V8.cell? ⟨wr.heap.size, 2, none⟩ = some (.slice (some ad) k ex) := (OT.cell 2).trans rfl
                  have lz := OT.lt
                  have lqXC := XC.lt
                  have lqOT := OT.lt
                  have lqBL := BL.lt
                  go_simp
                  replace XC := XC.far (p := ⟨wr.heap.size, 2, none⟩) (by simp <;> omega) (.slice PR (k1 + (k - (k1 + 1))) cr)
                  replace BL := BL.far (p := ⟨wr.heap.size, 2, none⟩) (by simp <;> omega) (.slice PR (k1 + (k - (k1 + 1))) cr)
                  have OT2 : Blk (V8.setCell ⟨wr.heap.size, 2, none⟩ (.slice PR (k1 + (k - (k1 + 1))) cr)) (wr.heap.size) 40 #[.slice A (nw a) c, .slice A' (nw b) d, .slice PR (k1 + (k - (k1 + 1))) cr] := OT.set_ 2 (.slice PR (k1 + (k - (k1 + 1))) cr)
                  clear OT
                  have OT := OT2
                  clear OT2
                  have HRN2 := HRN.far (p := ⟨wr.heap.size, 2, none⟩) (.inl (by simp <;> omega)) (.slice PR (k1 + (k - (k1 + 1))) cr)
                  clear HRN
                  have HRN := HRN2
                  clear HRN2
                  replace WW := WW.setCell (p := ⟨wr.heap.size, 2, none⟩) (by simp <;> omega) (.slice PR (k1 + (k - (k1 + 1))) cr)
                  refine hK.out _ _ (⟨(XC.cell 0).trans rfl, (XC.cell 1).trans rfl, (XC.cell 2).trans rfl⟩) (fun hHeld2 => ?_)
                  clear hK K hHeld fz cz lz
                  (try simp only [oq10_19_12, Act.put, List.setIfInBounds_toArray, List.set_cons_zero, List.set_cons_succ])
                  generalize hV : V8.setCell ⟨wr.heap.size, 2, none⟩ (.slice PR (k1 + (k - (k1 + 1))) cr) = V9 at hHeld2 WW XC OT BL HRN ⊢
                  clear hV
                  have hHeld := hHeld2
                  clear hHeld2
                  refine AnyL_done (by kernel_rfl) ?_ _
                  clear hHeld
                  have kXC0 : V9.cell? ⟨w.heap.size, 0, none⟩ = some (.slice A (nw a) c) := (XC.cell 0).trans rfl
                  have kXC1 : V9.cell? ⟨w.heap.size, 1, none⟩ = some (.slice A' (nw b) d) := (XC.cell 1).trans rfl
                  have kXC2 : V9.cell? ⟨w.heap.size, 2, none⟩ = some (.slice (some ad) k ex) := (XC.cell 2).trans rfl
                  have zXC := XC.lt
                  have kOT0 : V9.cell? ⟨wr.heap.size, 0, none⟩ = some (.slice A (nw a) c) := (OT.cell 0).trans rfl
                  have kOT1 : V9.cell? ⟨wr.heap.size, 1, none⟩ = some (.slice A' (nw b) d) := (OT.cell 1).trans rfl
                  have kOT2 : V9.cell? ⟨wr.heap.size, 2, none⟩ = some (.slice PR (k1 + (k - (k1 + 1))) cr) := (OT.cell 2).trans rfl
                  have zOT := OT.lt
                  have zBL := BL.lt
                  clear w1 w2 w3 w4 hfu BL lqb
                  have hUO := HRN.1
                  go_wp2_with fail
                  have qXCn := XC.lt
                  have qOTn := OT.lt
                  clear kXC0 kXC1 kXC2 zXC kOT0 kOT1 kOT2 zOT
                  have bw := (Below.refl V9.heap.size V9).alloc (Nat.le_refl _) (.cells #[.slice A (nw a) c, .slice A' (nw b) d, .slice (some ad) k ex] 40)
                  have ON := Blk.new V9 40 #[.slice A (nw a) c, .slice A' (nw b) d, .slice (some ad) k ex]
                  replace XC := XC.below bw XC.lt
                  replace OT := OT.below bw OT.lt
                  replace HRN := HRN.below bw
                  replace WW := WW.trans (bw.mono WW.size)
                  clear bw
                  generalize hV : V9.alloc (.cells #[.slice A (nw a) c, .slice A' (nw b) d, .slice (some ad) k ex] 40) = V10 at XC OT ON HRN WW ⊢
                  clear hV
                  have kXC0 : V10.cell? ⟨w.heap.size, 0, none⟩ = some (.slice A (nw a) c) := (XC.cell 0).trans rfl
                  have kXC1 : V10.cell? ⟨w.heap.size, 1, none⟩ = some (.slice A' (nw b) d) := (XC.cell 1).trans rfl
                  have kXC2 : V10.cell? ⟨w.heap.size, 2, none⟩ = some (.slice (some ad) k ex) := (XC.cell 2).trans rfl
                  have zXC := XC.lt
                  have kOT0 : V10.cell? ⟨wr.heap.size, 0, none⟩ = some (.slice A (nw a) c) := (OT.cell 0).trans rfl
                  have kOT1 : V10.cell? ⟨wr.heap.size, 1, none⟩ = some (.slice A' (nw b) d) := (OT.cell 1).trans rfl
                  have kOT2 : V10.cell? ⟨wr.heap.size, 2, none⟩ = some (.slice PR (k1 + (k - (k1 + 1))) cr) := (OT.cell 2).trans rfl
                  have zOT := OT.lt
                  have kON0 : V10.cell? ⟨V9.heap.size, 0, none⟩ = some (.slice A (nw a) c) := (ON.cell 0).trans rfl
                  have kON1 : V10.cell? ⟨V9.heap.size, 1, none⟩ = some (.slice A' (nw b) d) := (ON.cell 1).trans rfl
                  have kON2 : V10.cell? ⟨V9.heap.size, 2, none⟩ = some (.slice (some ad) k ex) := (ON.cell 2).trans rfl
                  have zON := ON.lt
                  go_wp2_with fail
                  have hbs : w.heap.size ≤ V10.heap.size := WW.size
                  have hc := rof_1s V10
                  refine hc.mono ?_
                  clear hc
                  rintro e V11 ⟨v, rfl, hv, hb⟩
                  clear kXC0 kXC1 kXC2 zXC kOT0 kOT1 kOT2 zOT kON0 kON1 kON2 zON
                  replace XC := XC.below hb XC.lt
                  replace OT := OT.below hb OT.lt
                  replace ON := ON.below hb ON.lt
                  replace HRN := HRN.below hb
                  replace WW := WW.trans (hb.mono WW.size)
                  obtain ⟨D30, d30, rfl, ho⟩ := hv
                  have O30 := ho.weak (b := w.heap.size) hbs
                  clear ho
                  have kXC0 : V11.cell? ⟨w.heap.size, 0, none⟩ = some (.slice A (nw a) c) := (XC.cell 0).trans rfl
                  have kXC1 : V11.cell? ⟨w.heap.size, 1, none⟩ = some (.slice A' (nw b) d) := (XC.cell 1).trans rfl
                  have kXC2 : V11.cell? ⟨w.heap.size, 2, none⟩ = some (.slice (some ad) k ex) := (XC.cell 2).trans rfl
                  have zXC := XC.lt
                  have kOT0 : V11.cell? ⟨wr.heap.size, 0, none⟩ = some (.slice A (nw a) c) := (OT.cell 0).trans rfl
                  have kOT1 : V11.cell? ⟨wr.heap.size, 1, none⟩ = some (.slice A' (nw b) d) := (OT.cell 1).trans rfl
                  have kOT2 : V11.cell? ⟨wr.heap.size, 2, none⟩ = some (.slice PR (k1 + (k - (k1 + 1))) cr) := (OT.cell 2).trans rfl
                  have zOT := OT.lt
                  have kON0 : V11.cell? ⟨V9.heap.size, 0, none⟩ = some (.slice A (nw a) c) := (ON.cell 0).trans rfl
                  have kON1 : V11.cell? ⟨V9.heap.size, 1, none⟩ = some (.slice A' (nw b) d) := (ON.cell 1).trans rfl
                  have kON2 : V11.cell? ⟨V9.heap.size, 2, none⟩ = some (.slice (some ad) k ex) := (ON.cell 2).trans rfl
                  have zON := ON.lt
                  clear hb hbs
                  have fON := ON.frozen 1
                  go_wp2_with fail
                  clear kXC0 kXC1 kXC2 zXC kOT0 kOT1 kOT2 zOT kON0 kON1 kON2 zON fON
                  have qXC := XC.lt
                  have qOT := OT.lt
                  replace XC := XC.far (p := ⟨V9.heap.size, 1, none⟩) (by simp <;> omega) (.slice D30 (nw 1) d30)
                  replace OT := OT.far (p := ⟨V9.heap.size, 1, none⟩) (by simp <;> omega) (.slice D30 (nw 1) d30)
                  replace O30 := O30.box (p := ⟨V9.heap.size, 1, none⟩) ON (by decide) (.slice D30 (nw 1) d30)
                  have ON2 : Blk (V11.setCell ⟨V9.heap.size, 1, none⟩ (.slice D30 (nw 1) d30)) (V9.heap.size) 40 #[.slice A (nw a) c, .slice D30 (nw 1) d30, .slice (some ad) k ex] := ON.set_ 1 (.slice D30 (nw 1) d30)
                  clear ON
                  have ON := ON2
                  clear ON2
                  replace HRN := HRN.far (p := ⟨V9.heap.size, 1, none⟩) (.inr hUO) (.slice D30 (nw 1) d30)
                  replace WW := WW.setCell (p := ⟨V9.heap.size, 1, none⟩) (by simp <;> omega) (.slice D30 (nw 1) d30)
                  generalize hV : V11.setCell ⟨V9.heap.size, 1, none⟩ (.slice D30 (nw 1) d30) = V90 at XC OT ON O30 HRN WW ⊢
                  clear hV
                  have kXC0 : V90.cell? ⟨w.heap.size, 0, none⟩ = some (.slice A (nw a) c) := (XC.cell 0).trans rfl
                  have kXC1 : V90.cell? ⟨w.heap.size, 1, none⟩ = some (.slice A' (nw b) d) := (XC.cell 1).trans rfl
                  have kXC2 : V90.cell? ⟨w.heap.size, 2, none⟩ = some (.slice (some ad) k ex) := (XC.cell 2).trans rfl
                  have zXC := XC.lt
                  have kOT0 : V90.cell? ⟨wr.heap.size, 0, none⟩ = some (.slice A (nw a) c) := (OT.cell 0).trans rfl
                  have kOT1 : V90.cell? ⟨wr.heap.size, 1, none⟩ = some (.slice A' (nw b) d) := (OT.cell 1).trans rfl
                  have kOT2 : V90.cell? ⟨wr.heap.size, 2, none⟩ = some (.slice PR (k1 + (k - (k1 + 1))) cr) := (OT.cell 2).trans rfl
                  have zOT := OT.lt
                  have kON0 : V90.cell? ⟨V9.heap.size, 0, none⟩ = some (.slice A (nw a) c) := (ON.cell 0).trans rfl
                  have kON1 : V90.cell? ⟨V9.heap.size, 1, none⟩ = some (.slice D30 (nw 1) d30) := (ON.cell 1).trans rfl
                  have kON2 : V90.cell? ⟨V9.heap.size, 2, none⟩ = some (.slice (some ad) k ex) := (ON.cell 2).trans rfl
                  have zON := ON.lt
                  have hkl : k1 < ps.length := by rw [HK.out]; exact hk1k
                  have HVO := hid (ver_other HVV.out hkl)
                  have HV1 := hid (ver_one (m' := nw 1) HVV.out (by omega))
                  have hba' : nw b ≤ 9223372036854775807 := by omega
                  have hna' : nw a ≤ 9223372036854775807 := by omega
                  have hbs : w.heap.size ≤ V90.heap.size := WW.size
                  have hc := verify_any _ _ _ _ V90 (cv_other (c := c) (d := d) (cr := cr) WW HK.out hk2 hk1k (HN0.out.up WW) (HB0.out.up WW) hna' hba' HTT.out HRN)
                  rw [HVO.out] at hc
                  refine hc.mono ?_
                  clear hc
                  rintro e V12 ⟨rfl, hb⟩
                  clear kXC0 kXC1 kXC2 zXC kOT0 kOT1 kOT2 zOT kON0 kON1 kON2 zON
                  replace O30 := O30.below hb (Nat.le_refl _)
                  replace XC := XC.below hb XC.lt
                  replace OT := OT.below hb OT.lt
                  replace ON := ON.below hb ON.lt
                  replace HRN := HRN.below hb
                  replace WW := WW.trans (hb.mono WW.size)
                  have kXC0 : V12.cell? ⟨w.heap.size, 0, none⟩ = some (.slice A (nw a) c) := (XC.cell 0).trans rfl
                  have kXC1 : V12.cell? ⟨w.heap.size, 1, none⟩ = some (.slice A' (nw b) d) := (XC.cell 1).trans rfl
                  have kXC2 : V12.cell? ⟨w.heap.size, 2, none⟩ = some (.slice (some ad) k ex) := (XC.cell 2).trans rfl
                  have zXC := XC.lt
                  have kOT0 : V12.cell? ⟨wr.heap.size, 0, none⟩ = some (.slice A (nw a) c) := (OT.cell 0).trans rfl
                  have kOT1 : V12.cell? ⟨wr.heap.size, 1, none⟩ = some (.slice A' (nw b) d) := (OT.cell 1).trans rfl
                  have kOT2 : V12.cell? ⟨wr.heap.size, 2, none⟩ = some (.slice PR (k1 + (k - (k1 + 1))) cr) := (OT.cell 2).trans rfl
                  have zOT := OT.lt
                  have kON0 : V12.cell? ⟨V9.heap.size, 0, none⟩ = some (.slice A (nw a) c) := (ON.cell 0).trans rfl
                  have kON1 : V12.cell? ⟨V9.heap.size, 1, none⟩ = some (.slice D30 (nw 1) d30) := (ON.cell 1).trans rfl
                  have kON2 : V12.cell? ⟨V9.heap.size, 2, none⟩ = some (.slice (some ad) k ex) := (ON.cell 2).trans rfl
                  have zON := ON.lt
                  clear hb hbs
                  go_wp2_with fail
                  have hbs : w.heap.size ≤ V12.heap.size := WW.size
                  have hc := verify_any _ _ _ _ V12 (cv_one (d1 := d30) HV.out WW O30.num)
                  rw [HV1.out] at hc
                  refine hc.mono ?_
                  clear hc
                  rintro e V13 ⟨rfl, hb⟩
                  clear kXC0 kXC1 kXC2 zXC kOT0 kOT1 kOT2 zOT kON0 kON1 kON2 zON
                  replace O30 := O30.below hb (Nat.le_refl _)
                  replace XC := XC.below hb XC.lt
                  replace OT := OT.below hb OT.lt
                  replace ON := ON.below hb ON.lt
                  replace HRN := HRN.below hb
                  replace WW := WW.trans (hb.mono WW.size)
                  have kXC0 : V13.cell? ⟨w.heap.size, 0, none⟩ = some (.slice A (nw a) c) := (XC.cell 0).trans rfl
                  have kXC1 : V13.cell? ⟨w.heap.size, 1, none⟩ = some (.slice A' (nw b) d) := (XC.cell 1).trans rfl
                  have kXC2 : V13.cell? ⟨w.heap.size, 2, none⟩ = some (.slice (some ad) k ex) := (XC.cell 2).trans rfl
                  have zXC := XC.lt
                  have kOT0 : V13.cell? ⟨wr.heap.size, 0, none⟩ = some (.slice A (nw a) c) := (OT.cell 0).trans rfl
                  have kOT1 : V13.cell? ⟨wr.heap.size, 1, none⟩ = some (.slice A' (nw b) d) := (OT.cell 1).trans rfl
                  have kOT2 : V13.cell? ⟨wr.heap.size, 2, none⟩ = some (.slice PR (k1 + (k - (k1 + 1))) cr) := (OT.cell 2).trans rfl
                  have zOT := OT.lt
                  have kON0 : V13.cell? ⟨V9.heap.size, 0, none⟩ = some (.slice A (nw a) c) := (ON.cell 0).trans rfl
                  have kON1 : V13.cell? ⟨V9.heap.size, 1, none⟩ = some (.slice D30 (nw 1) d30) := (ON.cell 1).trans rfl
                  have kON2 : V13.cell? ⟨V9.heap.size, 2, none⟩ = some (.slice (some ad) k ex) := (ON.cell 2).trans rfl
                  have zON := ON.lt
                  clear hb hbs
                  go_wp2_with fail
                  go_ret
                  exact ⟨rfl, WW⟩
                · have hfu : (ex = k1 + 1) = False := eq_false (fun e => hfull e.symm)
                  have hk1ex : k1 ≤ ex := by omega
                  clear hfull
                  go_wp2_with fail
                  have qXCo := XC.lt
                  clear kXC0 kXC1 kXC2 zXC
                  have bw := (Below.refl wr.heap.size wr).alloc (Nat.le_refl _) (.cells #[.slice A (nw a) c, .slice A' (nw b) d, .slice (some ad) k ex] 40)
                  have OT := Blk.new wr 40 #[.slice A (nw a) c, .slice A' (nw b) d, .slice (some ad) k ex]
                  replace XC := XC.below bw XC.lt
                  replace WW := WW.trans (bw.mono WW.size)
                  clear bw
                  generalize hV : wr.alloc (.cells #[.slice A (nw a) c, .slice A' (nw b) d, .slice (some ad) k ex] 40) = V5 at XC OT WW ⊢
                  clear hV
                  have kXC0 : V5.cell? ⟨w.heap.size, 0, none⟩ = some (.slice A (nw a) c) := (XC.cell 0).trans rfl
                  have kXC1 : V5.cell? ⟨w.heap.size, 1, none⟩ = some (.slice A' (nw b) d) := (XC.cell 1).trans rfl
                  have kXC2 : V5.cell? ⟨w.heap.size, 2, none⟩ = some (.slice (some ad) k ex) := (XC.cell 2).trans rfl
                  have zXC := XC.lt
                  have kOT0 : V5.cell? ⟨wr.heap.size, 0, none⟩ = some (.slice A (nw a) c) := (OT.cell 0).trans rfl
                  have kOT1 : V5.cell? ⟨wr.heap.size, 1, none⟩ = some (.slice A' (nw b) d) := (OT.cell 1).trans rfl
                  have kOT2 : V5.cell? ⟨wr.heap.size, 2, none⟩ = some (.slice (some ad) k ex) := (OT.cell 2).trans rfl
                  have zOT := OT.lt
                  go_wp2_with fail
                  have w1 : IntKind.i64.wrap (((k1 : Nat) : Int) + 1) = ((k1 : Nat) : Int) + 1 := IntWalk.i64_in _ (by omega)
                  have w2 : (0 : Int) ≤ ((k1 : Nat) : Int) + 1 := by omega
                  have w3 : (((k1 : Nat) : Int) + 1).toNat = k1 + 1 := by omega
                  have w4 : ((k1 : Nat) : Int) + 1 ≤ ((k : Nat) : Int) := by omega
                  have HRA : Hid (∀ V, Below w.heap.size w V → RowAt V V.heap.size ad (flat (trp X Y Z (List.range' 0 k1)))) := (show ∀ V, _ → _ from fun V hV => row_parts HK.out had HP.out HTT.out hV (by omega) rfl (fun j hj => by rw [Nat.zero_mul, Nat.zero_add]))
                  have HRB : Hid (∀ V, Below w.heap.size w V → RowAt V V.heap.size (ad.add ((k1 + 1) * 3)) (flat (trp X Y Z (List.range' (k1 + 1) (k - (k1 + 1)))))) := (show ∀ V, _ → _ from fun V hV => row_parts HK.out had HP.out HTT.out hV (by omega) (add_block _ _) (fun j hj => add_add2 _ _ _))
                  have HLA : Hid ((flat (trp X Y Z (List.range' 0 k1))).length = k1 * 3) := (show _ = _ by rw [trp_len]; simp)
                  have HLB : Hid ((flat (trp X Y Z (List.range' (k1 + 1) (k - (k1 + 1))))).length = (k - (k1 + 1)) * 3) := (show _ = _ by rw [trp_len]; simp)
                  have hk1000 : k ≤ 1000 := by rw [← HK.out]; exact ver_len HVV.out
                  have hst : (fun w' => w'.cell? ⟨w.heap.size, 0, none⟩ = some (.slice A (nw a) c) ∧ w'.cell? ⟨w.heap.size, 1, none⟩ = some (.slice A' (nw b) d) ∧ w'.cell? ⟨w.heap.size, 2, none⟩ = some (.slice (some ad) k ex)) V5.drew := ⟨(XC.cell 0).trans rfl, (XC.cell 1).trans rfl, (XC.cell 2).trans rfl⟩
                  clear kXC0 kXC1 kXC2 zXC kOT0 kOT1 kOT2 zOT
                  replace WW := WW.drew
                  replace XC : Blk V5.drew (w.heap.size) 40 #[.slice A (nw a) c, .slice A' (nw b) d, .slice (some ad) k ex] := XC
                  replace OT : Blk V5.drew (wr.heap.size) 40 #[.slice A (nw a) c, .slice A' (nw b) d, .slice (some ad) k ex] := OT
                  refine region_L 20 (fun w' => w'.cell? ⟨w.heap.size, 0, none⟩ = some (.slice A (nw a) c) ∧ w'.cell? ⟨w.heap.size, 1, none⟩ = some (.slice A' (nw b) d) ∧ w'.cell? ⟨w.heap.size, 2, none⟩ = some (.slice (some ad) k ex)) (by kernel_rfl) hst (fun hHeld => ?_)
                  clear hst
                  generalize hV : V5.drew = U5x0 at hHeld WW XC OT ⊢
                  clear hV
                  refine AnyL_take (i := 0) (oi := oq10_19_0) (v := ?_) rfl (by kernel_rfl) (by kernel_rfl) (by kernel_rfl) (by kernel_rfl) (fun _ _ _ h => h) (Or.inl ⟨by rfl, ?_⟩) (by assumption) ?_
                  rotate_left
                  · (delta oq10_19_0; intro ws hSw; (try dsimp only at hSw); (try go_simp); (try with_reducible rfl))
                  (try simp only [oq10_19_0, Act.put, List.setIfInBounds_toArray, List.set_cons_zero, List.set_cons_succ])
                  refine AnyL_take (i := 1) (oi := oq10_19_1) (v := ?_) rfl (by kernel_rfl) (by kernel_rfl) (by kernel_rfl) (by kernel_rfl) (fun _ _ _ h => h) (Or.inl ⟨by rfl, ?_⟩) (by assumption) ?_
                  rotate_left
                  · (delta oq10_19_1; intro ws hSw; (try dsimp only at hSw); (try go_simp); (try with_reducible rfl))
                  (try simp only [oq10_19_1, Act.put, List.setIfInBounds_toArray, List.set_cons_zero, List.set_cons_succ])
                  refine AnyL_take (i := 2) (oi := oq10_19_2) (v := ?_) rfl (by kernel_rfl) (by kernel_rfl) (by kernel_rfl) (by kernel_rfl) (fun _ _ _ h => h) (Or.inl ⟨by rfl, ?_⟩) (by assumption) ?_
                  rotate_left
                  · (delta oq10_19_2; intro ws hSw; (try dsimp only at hSw); (try go_simp); (try with_reducible rfl))
                  (try simp only [oq10_19_2, Act.put, List.setIfInBounds_toArray, List.set_cons_zero, List.set_cons_succ])
                  refine AnyL_take (i := 3) (oi := oq10_19_3) (v := ?_) rfl (by kernel_rfl) (by kernel_rfl) (by kernel_rfl) (by kernel_rfl) (fun _ _ _ h => h) (Or.inl ⟨by rfl, ?_⟩) (by assumption) ?_
                  rotate_left
                  · (delta oq10_19_3; intro ws hSw; (try dsimp only at hSw); (try go_simp); (try with_reducible rfl))
                  (try simp only [oq10_19_3, Act.put, List.setIfInBounds_toArray, List.set_cons_zero, List.set_cons_succ])
                  refine AnyL_take (i := 4) (oi := oq10_19_4) (v := ?_) rfl (by kernel_rfl) (by kernel_rfl) (by kernel_rfl) (by kernel_rfl) (fun _ _ _ h => h) (Or.inl ⟨by rfl, ?_⟩) (by assumption) ?_
                  rotate_left
                  · (delta oq10_19_4; intro ws hSw; (try dsimp only at hSw); (try go_simp); (try with_reducible rfl))
                  (try simp only [oq10_19_4, Act.put, List.setIfInBounds_toArray, List.set_cons_zero, List.set_cons_succ])
                  refine AnyL_take (i := 5) (oi := oq10_19_5) (v := ?_) rfl (by kernel_rfl) (by kernel_rfl) (by kernel_rfl) (by kernel_rfl) (fun _ _ _ h => h) (Or.inl ⟨by rfl, ?_⟩) (by assumption) ?_
                  rotate_left
                  · (delta oq10_19_5; intro ws hSw; (try dsimp only at hSw); (try go_simp); (try with_reducible rfl))
                  (try simp only [oq10_19_5, Act.put, List.setIfInBounds_toArray, List.set_cons_zero, List.set_cons_succ])
                  refine AnyL_take (i := 6) (oi := oq10_19_6) (v := ?_) rfl (by kernel_rfl) (by kernel_rfl) (by kernel_rfl) (by kernel_rfl) (fun _ _ _ h => h) (Or.inl ⟨by rfl, ?_⟩) (by assumption) ?_
                  rotate_left
                  · (delta oq10_19_6; intro ws hSw; (try dsimp only at hSw); (try go_simp); (try with_reducible rfl))
                  (try simp only [oq10_19_6, Act.put, List.setIfInBounds_toArray, List.set_cons_zero, List.set_cons_succ])
                  refine AnyL_take (i := 7) (oi := oq10_19_7) (v := ?_) rfl (by kernel_rfl) (by kernel_rfl) (by kernel_rfl) (by kernel_rfl) (fun _ _ _ h => h) (Or.inl ⟨by rfl, ?_⟩) (by assumption) ?_
                  rotate_left
                  · (delta oq10_19_7; intro ws hSw; (try dsimp only at hSw); (try go_simp); (try with_reducible rfl))
                  (try simp only [oq10_19_7, Act.put, List.setIfInBounds_toArray, List.set_cons_zero, List.set_cons_succ])
                  refine AnyL_take (i := 8) (oi := oq10_19_8) (v := ?_) rfl (by kernel_rfl) (by kernel_rfl) (by kernel_rfl) (by kernel_rfl) (fun _ _ _ h => h) (Or.inl ⟨by rfl, ?_⟩) (by assumption) ?_
                  rotate_left
                  · (delta oq10_19_8; intro ws hSw; (try dsimp only at hSw); (try go_simp); (try with_reducible rfl))
                  (try simp only [oq10_19_8, Act.put, List.setIfInBounds_toArray, List.set_cons_zero, List.set_cons_succ])
                  refine AnyL_ready (rs := [9]) (by kernel_rfl) (by simp) ?_
                  refine ReadyL.cons (o := oq10_19_9) rfl (fun K hK => ?_) ReadyL.nil
                  delta oq10_19_9
                  go_simp
                  have lqXC := XC.lt
                  have lqOT := OT.lt
                  have ba := (Below.refl U5x0.heap.size U5x0).alloc (Nat.le_refl _) (.cells #[.slice (some ad) k1 ex, .slice (some (ad.add ((k1 + 1) * 3))) (k - (k1 + 1)) (ex - (k1 + 1))] 38)
                  replace XC := XC.below ba XC.lt
                  replace OT := OT.below ba OT.lt
                  have BL := Blk.new U5x0 38 #[.slice (some ad) k1 ex, .slice (some (ad.add ((k1 + 1) * 3))) (k - (k1 + 1)) (ex - (k1 + 1))]
                  replace WW := WW.trans (ba.mono WW.size)
                  refine hK.out _ _ (⟨(XC.cell 0).trans rfl, (XC.cell 1).trans rfl, (XC.cell 2).trans rfl⟩) (fun hHeld2 => ?_)
                  clear hK K hHeld ba
                  (try simp only [oq10_19_9, Act.put, List.setIfInBounds_toArray, List.set_cons_zero, List.set_cons_succ])
                  generalize hV : U5x0.alloc (.cells #[.slice (some ad) k1 ex, .slice (some (ad.add ((k1 + 1) * 3))) (k - (k1 + 1)) (ex - (k1 + 1))] 38) = V7 at hHeld2 WW BL XC OT ⊢
                  clear hV
                  have hHeld := hHeld2
                  clear hHeld2
                  have lqb := BL.lt
                  refine AnyL_ready (rs := [10]) (by kernel_rfl) (by simp) ?_
                  refine ReadyL.cons (o := oq10_19_10) rfl (fun K hK => ?_) ReadyL.nil
                  delta oq10_19_10
                  go_simp
                  have hbs : w.heap.size ≤ V7.heap.size := WW.size
                  have hc := concat_any _ k1 (k - (k1 + 1)) ex (ex - (k1 + 1)) ad (ad.add ((k1 + 1) * 3)) _ _ V7 BL (HRA.out _ WW) (HRB.out _ WW) HLA.out HLB.out (by omega) (by omega)
                  refine hc.mono ?_
                  clear hc
                  rintro e V8 ⟨vr, rfl, hrow, hb⟩
                  replace XC := XC.below hb XC.lt
                  replace OT := OT.below hb OT.lt
                  replace BL := BL.below hb BL.lt
                  replace WW := WW.trans (hb.mono WW.size)
                  have sz8 := hb.size
                  obtain ⟨PR, cr, rfl⟩ := row_slc hrow
                  have HRN := RowN.of hrow
                  clear hrow
                  clear hb hbs
                  refine hK.out _ _ (⟨(XC.cell 0).trans rfl, (XC.cell 1).trans rfl, (XC.cell 2).trans rfl⟩) (fun hHeld2 => ?_)
                  clear hK K hHeld
                  have hHeld := hHeld2
                  clear hHeld2
                  (try simp only [oq10_19_10, Act.put, List.setIfInBounds_toArray, List.set_cons_zero, List.set_cons_succ])
                  refine AnyL_take (i := 11) (oi := oq10_19_11) (v := ?_) rfl (by kernel_rfl) (by kernel_rfl) (by kernel_rfl) (by kernel_rfl) (fun _ _ _ h => h) (Or.inl ⟨by rfl, ?_⟩) (by assumption) ?_
                  rotate_left
                  · (delta oq10_19_11; intro ws hSw; (try dsimp only at hSw); (try go_simp); (try with_reducible rfl))
                  (try simp only [oq10_19_11, Act.put, List.setIfInBounds_toArray, List.set_cons_zero, List.set_cons_succ])
                  refine AnyL_ready (rs := [12]) (by kernel_rfl) (by simp) ?_
                  refine ReadyL.cons (o := oq10_19_12) rfl (fun K hK => ?_) ReadyL.nil
                  delta oq10_19_12
                  have fz := OT.frozen 2
                  have cz : V8.cell? ⟨wr.heap.size, 2, none⟩ = some (.slice (some ad) k ex) := (OT.cell 2).trans rfl
                  have lz := OT.lt
                  have lqXC := XC.lt
                  have lqOT := OT.lt
                  have lqBL := BL.lt
                  go_simp
                  replace XC := XC.far (p := ⟨wr.heap.size, 2, none⟩) (by simp <;> omega) (.slice PR (k1 + (k - (k1 + 1))) cr)
                  replace BL := BL.far (p := ⟨wr.heap.size, 2, none⟩) (by simp <;> omega) (.slice PR (k1 + (k - (k1 + 1))) cr)
                  have OT2 : Blk (V8.setCell ⟨wr.heap.size, 2, none⟩ (.slice PR (k1 + (k - (k1 + 1))) cr)) (wr.heap.size) 40 #[.slice A (nw a) c, .slice A' (nw b) d, .slice PR (k1 + (k - (k1 + 1))) cr] := OT.set_ 2 (.slice PR (k1 + (k - (k1 + 1))) cr)
                  clear OT
                  have OT := OT2
                  clear OT2
                  have HRN2 := HRN.far (p := ⟨wr.heap.size, 2, none⟩) (.inl (by simp <;> omega)) (.slice PR (k1 + (k - (k1 + 1))) cr)
                  clear HRN
                  have HRN := HRN2
                  clear HRN2
                  replace WW := WW.setCell (p := ⟨wr.heap.size, 2, none⟩) (by simp <;> omega) (.slice PR (k1 + (k - (k1 + 1))) cr)
                  refine hK.out _ _ (⟨(XC.cell 0).trans rfl, (XC.cell 1).trans rfl, (XC.cell 2).trans rfl⟩) (fun hHeld2 => ?_)
                  clear hK K hHeld fz cz lz
                  (try simp only [oq10_19_12, Act.put, List.setIfInBounds_toArray, List.set_cons_zero, List.set_cons_succ])
                  generalize hV : V8.setCell ⟨wr.heap.size, 2, none⟩ (.slice PR (k1 + (k - (k1 + 1))) cr) = V9 at hHeld2 WW XC OT BL HRN ⊢
                  clear hV
                  have hHeld := hHeld2
                  clear hHeld2
                  refine AnyL_done (by kernel_rfl) ?_ _
                  clear hHeld
                  have kXC0 : V9.cell? ⟨w.heap.size, 0, none⟩ = some (.slice A (nw a) c) := (XC.cell 0).trans rfl
                  have kXC1 : V9.cell? ⟨w.heap.size, 1, none⟩ = some (.slice A' (nw b) d) := (XC.cell 1).trans rfl
                  have kXC2 : V9.cell? ⟨w.heap.size, 2, none⟩ = some (.slice (some ad) k ex) := (XC.cell 2).trans rfl
                  have zXC := XC.lt
                  have kOT0 : V9.cell? ⟨wr.heap.size, 0, none⟩ = some (.slice A (nw a) c) := (OT.cell 0).trans rfl
                  have kOT1 : V9.cell? ⟨wr.heap.size, 1, none⟩ = some (.slice A' (nw b) d) := (OT.cell 1).trans rfl
                  have kOT2 : V9.cell? ⟨wr.heap.size, 2, none⟩ = some (.slice PR (k1 + (k - (k1 + 1))) cr) := (OT.cell 2).trans rfl
                  have zOT := OT.lt
                  have zBL := BL.lt
                  clear w1 w2 w3 w4 hfu BL lqb
                  have hUO := HRN.1
                  go_wp2_with fail
                  have qXCn := XC.lt
                  have qOTn := OT.lt
                  clear kXC0 kXC1 kXC2 zXC kOT0 kOT1 kOT2 zOT
                  have bw := (Below.refl V9.heap.size V9).alloc (Nat.le_refl _) (.cells #[.slice A (nw a) c, .slice A' (nw b) d, .slice (some ad) k ex] 40)
                  have ON := Blk.new V9 40 #[.slice A (nw a) c, .slice A' (nw b) d, .slice (some ad) k ex]
                  replace XC := XC.below bw XC.lt
                  replace OT := OT.below bw OT.lt
                  replace HRN := HRN.below bw
                  replace WW := WW.trans (bw.mono WW.size)
                  clear bw
                  generalize hV : V9.alloc (.cells #[.slice A (nw a) c, .slice A' (nw b) d, .slice (some ad) k ex] 40) = V10 at XC OT ON HRN WW ⊢
                  clear hV
                  have kXC0 : V10.cell? ⟨w.heap.size, 0, none⟩ = some (.slice A (nw a) c) := (XC.cell 0).trans rfl
                  have kXC1 : V10.cell? ⟨w.heap.size, 1, none⟩ = some (.slice A' (nw b) d) := (XC.cell 1).trans rfl
                  have kXC2 : V10.cell? ⟨w.heap.size, 2, none⟩ = some (.slice (some ad) k ex) := (XC.cell 2).trans rfl
                  have zXC := XC.lt
                  have kOT0 : V10.cell? ⟨wr.heap.size, 0, none⟩ = some (.slice A (nw a) c) := (OT.cell 0).trans rfl
                  have kOT1 : V10.cell? ⟨wr.heap.size, 1, none⟩ = some (.slice A' (nw b) d) := (OT.cell 1).trans rfl
                  have kOT2 : V10.cell? ⟨wr.heap.size, 2, none⟩ = some (.slice PR (k1 + (k - (k1 + 1))) cr) := (OT.cell 2).trans rfl
                  have zOT := OT.lt
                  have kON0 : V10.cell? ⟨V9.heap.size, 0, none⟩ = some (.slice A (nw a) c) := (ON.cell 0).trans rfl
                  have kON1 : V10.cell? ⟨V9.heap.size, 1, none⟩ = some (.slice A' (nw b) d) := (ON.cell 1).trans rfl
                  have kON2 : V10.cell? ⟨V9.heap.size, 2, none⟩ = some (.slice (some ad) k ex) := (ON.cell 2).trans rfl
                  have zON := ON.lt
                  go_wp2_with fail
                  have hbs : w.heap.size ≤ V10.heap.size := WW.size
                  have hc := rof_1s V10
                  refine hc.mono ?_
                  clear hc
                  rintro e V11 ⟨v, rfl, hv, hb⟩
                  clear kXC0 kXC1 kXC2 zXC kOT0 kOT1 kOT2 zOT kON0 kON1 kON2 zON
                  replace XC := XC.below hb XC.lt
                  replace OT := OT.below hb OT.lt
                  replace ON := ON.below hb ON.lt
                  replace HRN := HRN.below hb
                  replace WW := WW.trans (hb.mono WW.size)
                  obtain ⟨D30, d30, rfl, ho⟩ := hv
                  have O30 := ho.weak (b := w.heap.size) hbs
                  clear ho
                  have kXC0 : V11.cell? ⟨w.heap.size, 0, none⟩ = some (.slice A (nw a) c) := (XC.cell 0).trans rfl
                  have kXC1 : V11.cell? ⟨w.heap.size, 1, none⟩ = some (.slice A' (nw b) d) := (XC.cell 1).trans rfl
                  have kXC2 : V11.cell? ⟨w.heap.size, 2, none⟩ = some (.slice (some ad) k ex) := (XC.cell 2).trans rfl
                  have zXC := XC.lt
                  have kOT0 : V11.cell? ⟨wr.heap.size, 0, none⟩ = some (.slice A (nw a) c) := (OT.cell 0).trans rfl
                  have kOT1 : V11.cell? ⟨wr.heap.size, 1, none⟩ = some (.slice A' (nw b) d) := (OT.cell 1).trans rfl
                  have kOT2 : V11.cell? ⟨wr.heap.size, 2, none⟩ = some (.slice PR (k1 + (k - (k1 + 1))) cr) := (OT.cell 2).trans rfl
                  have zOT := OT.lt
                  have kON0 : V11.cell? ⟨V9.heap.size, 0, none⟩ = some (.slice A (nw a) c) := (ON.cell 0).trans rfl
                  have kON1 : V11.cell? ⟨V9.heap.size, 1, none⟩ = some (.slice A' (nw b) d) := (ON.cell 1).trans rfl
                  have kON2 : V11.cell? ⟨V9.heap.size, 2, none⟩ = some (.slice (some ad) k ex) := (ON.cell 2).trans rfl
                  have zON := ON.lt
                  clear hb hbs
                  have fON := ON.frozen 1
                  go_wp2_with fail
                  clear kXC0 kXC1 kXC2 zXC kOT0 kOT1 kOT2 zOT kON0 kON1 kON2 zON fON
                  have qXC := XC.lt
                  have qOT := OT.lt
                  replace XC := XC.far (p := ⟨V9.heap.size, 1, none⟩) (by simp <;> omega) (.slice D30 (nw 1) d30)
                  replace OT := OT.far (p := ⟨V9.heap.size, 1, none⟩) (by simp <;> omega) (.slice D30 (nw 1) d30)
                  replace O30 := O30.box (p := ⟨V9.heap.size, 1, none⟩) ON (by decide) (.slice D30 (nw 1) d30)
                  have ON2 : Blk (V11.setCell ⟨V9.heap.size, 1, none⟩ (.slice D30 (nw 1) d30)) (V9.heap.size) 40 #[.slice A (nw a) c, .slice D30 (nw 1) d30, .slice (some ad) k ex] := ON.set_ 1 (.slice D30 (nw 1) d30)
                  clear ON
                  have ON := ON2
                  clear ON2
                  replace HRN := HRN.far (p := ⟨V9.heap.size, 1, none⟩) (.inr hUO) (.slice D30 (nw 1) d30)
                  replace WW := WW.setCell (p := ⟨V9.heap.size, 1, none⟩) (by simp <;> omega) (.slice D30 (nw 1) d30)
                  generalize hV : V11.setCell ⟨V9.heap.size, 1, none⟩ (.slice D30 (nw 1) d30) = V90 at XC OT ON O30 HRN WW ⊢
                  clear hV
                  have kXC0 : V90.cell? ⟨w.heap.size, 0, none⟩ = some (.slice A (nw a) c) := (XC.cell 0).trans rfl
                  have kXC1 : V90.cell? ⟨w.heap.size, 1, none⟩ = some (.slice A' (nw b) d) := (XC.cell 1).trans rfl
                  have kXC2 : V90.cell? ⟨w.heap.size, 2, none⟩ = some (.slice (some ad) k ex) := (XC.cell 2).trans rfl
                  have zXC := XC.lt
                  have kOT0 : V90.cell? ⟨wr.heap.size, 0, none⟩ = some (.slice A (nw a) c) := (OT.cell 0).trans rfl
                  have kOT1 : V90.cell? ⟨wr.heap.size, 1, none⟩ = some (.slice A' (nw b) d) := (OT.cell 1).trans rfl
                  have kOT2 : V90.cell? ⟨wr.heap.size, 2, none⟩ = some (.slice PR (k1 + (k - (k1 + 1))) cr) := (OT.cell 2).trans rfl
                  have zOT := OT.lt
                  have kON0 : V90.cell? ⟨V9.heap.size, 0, none⟩ = some (.slice A (nw a) c) := (ON.cell 0).trans rfl
                  have kON1 : V90.cell? ⟨V9.heap.size, 1, none⟩ = some (.slice D30 (nw 1) d30) := (ON.cell 1).trans rfl
                  have kON2 : V90.cell? ⟨V9.heap.size, 2, none⟩ = some (.slice (some ad) k ex) := (ON.cell 2).trans rfl
                  have zON := ON.lt
                  have hkl : k1 < ps.length := by rw [HK.out]; exact hk1k
                  have HVO := hid (ver_other HVV.out hkl)
                  have HV1 := hid (ver_one (m' := nw 1) HVV.out (by omega))
                  have hba' : nw b ≤ 9223372036854775807 := by omega
                  have hna' : nw a ≤ 9223372036854775807 := by omega
                  have hbs : w.heap.size ≤ V90.heap.size := WW.size
                  have hc := verify_any _ _ _ _ V90 (cv_other (c := c) (d := d) (cr := cr) WW HK.out hk2 hk1k (HN0.out.up WW) (HB0.out.up WW) hna' hba' HTT.out HRN)
                  rw [HVO.out] at hc
                  refine hc.mono ?_
                  clear hc
                  rintro e V12 ⟨rfl, hb⟩
                  clear kXC0 kXC1 kXC2 zXC kOT0 kOT1 kOT2 zOT kON0 kON1 kON2 zON
                  replace O30 := O30.below hb (Nat.le_refl _)
                  replace XC := XC.below hb XC.lt
                  replace OT := OT.below hb OT.lt
                  replace ON := ON.below hb ON.lt
                  replace HRN := HRN.below hb
                  replace WW := WW.trans (hb.mono WW.size)
                  have kXC0 : V12.cell? ⟨w.heap.size, 0, none⟩ = some (.slice A (nw a) c) := (XC.cell 0).trans rfl
                  have kXC1 : V12.cell? ⟨w.heap.size, 1, none⟩ = some (.slice A' (nw b) d) := (XC.cell 1).trans rfl
                  have kXC2 : V12.cell? ⟨w.heap.size, 2, none⟩ = some (.slice (some ad) k ex) := (XC.cell 2).trans rfl
                  have zXC := XC.lt
                  have kOT0 : V12.cell? ⟨wr.heap.size, 0, none⟩ = some (.slice A (nw a) c) := (OT.cell 0).trans rfl
                  have kOT1 : V12.cell? ⟨wr.heap.size, 1, none⟩ = some (.slice A' (nw b) d) := (OT.cell 1).trans rfl
                  have kOT2 : V12.cell? ⟨wr.heap.size, 2, none⟩ = some (.slice PR (k1 + (k - (k1 + 1))) cr) := (OT.cell 2).trans rfl
                  have zOT := OT.lt
                  have kON0 : V12.cell? ⟨V9.heap.size, 0, none⟩ = some (.slice A (nw a) c) := (ON.cell 0).trans rfl
                  have kON1 : V12.cell? ⟨V9.heap.size, 1, none⟩ = some (.slice D30 (nw 1) d30) := (ON.cell 1).trans rfl
                  have kON2 : V12.cell? ⟨V9.heap.size, 2, none⟩ = some (.slice (some ad) k ex) := (ON.cell 2).trans rfl
                  have zON := ON.lt
                  clear hb hbs
                  go_wp2_with fail
                  have hbs : w.heap.size ≤ V12.heap.size := WW.size
                  have hc := verify_any _ _ _ _ V12 (cv_one (d1 := d30) HV.out WW O30.num)
                  rw [HV1.out] at hc
                  refine hc.mono ?_
                  clear hc
                  rintro e V13 ⟨rfl, hb⟩
                  clear kXC0 kXC1 kXC2 zXC kOT0 kOT1 kOT2 zOT kON0 kON1 kON2 zON
                  replace O30 := O30.below hb (Nat.le_refl _)
                  replace XC := XC.below hb XC.lt
                  replace OT := OT.below hb OT.lt
                  replace ON := ON.below hb ON.lt
                  replace HRN := HRN.below hb
                  replace WW := WW.trans (hb.mono WW.size)
                  have kXC0 : V13.cell? ⟨w.heap.size, 0, none⟩ = some (.slice A (nw a) c) := (XC.cell 0).trans rfl
                  have kXC1 : V13.cell? ⟨w.heap.size, 1, none⟩ = some (.slice A' (nw b) d) := (XC.cell 1).trans rfl
                  have kXC2 : V13.cell? ⟨w.heap.size, 2, none⟩ = some (.slice (some ad) k ex) := (XC.cell 2).trans rfl
                  have zXC := XC.lt
                  have kOT0 : V13.cell? ⟨wr.heap.size, 0, none⟩ = some (.slice A (nw a) c) := (OT.cell 0).trans rfl
                  have kOT1 : V13.cell? ⟨wr.heap.size, 1, none⟩ = some (.slice A' (nw b) d) := (OT.cell 1).trans rfl
                  have kOT2 : V13.cell? ⟨wr.heap.size, 2, none⟩ = some (.slice PR (k1 + (k - (k1 + 1))) cr) := (OT.cell 2).trans rfl
                  have zOT := OT.lt
                  have kON0 : V13.cell? ⟨V9.heap.size, 0, none⟩ = some (.slice A (nw a) c) := (ON.cell 0).trans rfl
                  have kON1 : V13.cell? ⟨V9.heap.size, 1, none⟩ = some (.slice D30 (nw 1) d30) := (ON.cell 1).trans rfl
                  have kON2 : V13.cell? ⟨V9.heap.size, 2, none⟩ = some (.slice (some ad) k ex) := (ON.cell 2).trans rfl
                  have zON := ON.lt
                  clear hb hbs
                  go_wp2_with fail
                  go_ret
                  exact ⟨rfl, WW⟩
      · rw [intS_big (okB_nw (by omega)) hbl]
        clear hbl
        go_wp2_with fail
        go_loopw [43] (fun i wr => ∃ (j : Nat), j ≤ k ∧ i = .int .i64 ((j : Nat) : Int) ∧ Below w.heap.size w wr ∧ Blk wr (w.heap.size) 40 #[.slice A (nw a) c, .slice A' (nw b) d, .slice P k ex]) (fun i wr => k - (intOf i).toNat)
        case atStart => exact ⟨0, by omega, by go_num, WW, XC⟩
        case round =>
          clear WW kXC0 kXC1 kXC2 zXC XC
          obtain ⟨j, hjk0, rfl, WW, XC⟩ := hrel
          have kXC0 : wr.cell? ⟨w.heap.size, 0, none⟩ = some (.slice A (nw a) c) := (XC.cell 0).trans rfl
          have kXC1 : wr.cell? ⟨w.heap.size, 1, none⟩ = some (.slice A' (nw b) d) := (XC.cell 1).trans rfl
          have kXC2 : wr.cell? ⟨w.heap.size, 2, none⟩ = some (.slice P k ex) := (XC.cell 2).trans rfl
          have zXC := XC.lt
          by_cases hjk : j < k
          · have l1 : decide (((j : Nat) : Int) < ((k : Nat) : Int)) = true := by simp; omega
            obtain ⟨hl, ad, A1, A2, A3, c1, n2, c2, n3, c3, e, q0, q1, q2, HN1, hn1, hx⟩ := HPV.out.part hjk WW
            obtain ⟨n1, hn1'⟩ : ∃ x, x = ps[j].wds := ⟨_, rfl⟩
            obtain ⟨a1, ha1⟩ : ∃ x, x = ps[j].val := ⟨_, rfl⟩
            rw [← hn1'] at q0 HN1 hn1 hx
            rw [← ha1] at HN1
            have HW1 := hid hn1'
            have HA1 := hid ha1
            have HX := hid hx
            have HN := hid HN1
            clear hn1' ha1 hx HN1
            subst e
            have HVJ := hid (ver_part HVV.out hl)
            obtain ⟨pj, hpj⟩ : ∃ p, p = ps[j] := ⟨_, rfl⟩
            rw [← hpj] at HX HVJ
            clear hpj
            go_wp2_with fail
            clear kXC0 kXC1 kXC2 zXC
            have bw := (Below.refl wr.heap.size wr).alloc (Nat.le_refl _) (.cells #[.slice A1 n1 c1, .slice A2 n2 c2, .slice A3 n3 c3] 40)
            have XP := Blk.new wr 40 #[.slice A1 n1 c1, .slice A2 n2 c2, .slice A3 n3 c3]
            replace XC := XC.below bw XC.lt
            replace WW := WW.trans (bw.mono WW.size)
            clear bw
            generalize hV : wr.alloc (.cells #[.slice A1 n1 c1, .slice A2 n2 c2, .slice A3 n3 c3] 40) = V5 at XC XP WW ⊢
            clear hV
            have kXC0 : V5.cell? ⟨w.heap.size, 0, none⟩ = some (.slice A (nw a) c) := (XC.cell 0).trans rfl
            have kXC1 : V5.cell? ⟨w.heap.size, 1, none⟩ = some (.slice A' (nw b) d) := (XC.cell 1).trans rfl
            have kXC2 : V5.cell? ⟨w.heap.size, 2, none⟩ = some (.slice (some ad) k ex) := (XC.cell 2).trans rfl
            have zXC := XC.lt
            have kXP0 : V5.cell? ⟨wr.heap.size, 0, none⟩ = some (.slice A1 n1 c1) := (XP.cell 0).trans rfl
            have kXP1 : V5.cell? ⟨wr.heap.size, 1, none⟩ = some (.slice A2 n2 c2) := (XP.cell 1).trans rfl
            have kXP2 : V5.cell? ⟨wr.heap.size, 2, none⟩ = some (.slice A3 n3 c3) := (XP.cell 2).trans rfl
            have zXP := XP.lt
            go_wp2_with fail
            have hbs : w.heap.size ≤ V5.heap.size := WW.size
            have hc := verify_any pj _ _ _ V5 (HX.out.go WW)
            rw [HVJ.out] at hc
            refine hc.mono ?_
            clear hc
            rintro e V6 ⟨rfl, hb⟩
            clear kXC0 kXC1 kXC2 zXC kXP0 kXP1 kXP2 zXP
            replace XC := XC.below hb XC.lt
            replace XP := XP.below hb XP.lt
            replace WW := WW.trans (hb.mono WW.size)
            have kXC0 : V6.cell? ⟨w.heap.size, 0, none⟩ = some (.slice A (nw a) c) := (XC.cell 0).trans rfl
            have kXC1 : V6.cell? ⟨w.heap.size, 1, none⟩ = some (.slice A' (nw b) d) := (XC.cell 1).trans rfl
            have kXC2 : V6.cell? ⟨w.heap.size, 2, none⟩ = some (.slice (some ad) k ex) := (XC.cell 2).trans rfl
            have zXC := XC.lt
            have kXP0 : V6.cell? ⟨wr.heap.size, 0, none⟩ = some (.slice A1 n1 c1) := (XP.cell 0).trans rfl
            have kXP1 : V6.cell? ⟨wr.heap.size, 1, none⟩ = some (.slice A2 n2 c2) := (XP.cell 1).trans rfl
            have kXP2 : V6.cell? ⟨wr.heap.size, 2, none⟩ = some (.slice A3 n3 c3) := (XP.cell 2).trans rfl
            have zXP := XP.lt
            clear hb hbs
            go_wp2_with fail
            go_roundw
            case rel => exact ⟨j + 1, by omega, by go_num, WW, XC⟩
            case measure => simp [intOf] <;> omega
          · have l1 : decide (((j : Nat) : Int) < ((k : Nat) : Int)) = false := by simp; omega
            by_cases hk0 : k = 0
            · have hps : ps = [] := List.eq_nil_of_length_eq_zero (by rw [HK.out]; exact hk0)
              have h2 := HVV.out
              rw [hps] at h2
              obtain ⟨ea, _, _⟩ := ver_none h2
              have l2 : (((k : Nat) : Int) == 0) = true := by rw [hk0]; rfl
              have HS2 : Hid (sameR (nw a) a (nw 2) 2 = true) := (show _ = _ by rw [ea]; exact sameR_yes rfl rfl)
              clear ea h2 hps hk0
              go_wp2_with fail
              have hst : (fun w' => w'.cell? ⟨w.heap.size, 0, none⟩ = some (.slice A (nw a) c) ∧ w'.cell? ⟨w.heap.size, 1, none⟩ = some (.slice A' (nw b) d) ∧ w'.cell? ⟨w.heap.size, 2, none⟩ = some (.slice P k ex)) wr.drew := ⟨(XC.cell 0).trans rfl, (XC.cell 1).trans rfl, (XC.cell 2).trans rfl⟩
              clear kXC0 kXC1 kXC2 zXC
              replace WW := WW.drew
              replace XC : Blk wr.drew (w.heap.size) 40 #[.slice A (nw a) c, .slice A' (nw b) d, .slice P k ex] := XC
              refine region_L 12 (fun w' => w'.cell? ⟨w.heap.size, 0, none⟩ = some (.slice A (nw a) c) ∧ w'.cell? ⟨w.heap.size, 1, none⟩ = some (.slice A' (nw b) d) ∧ w'.cell? ⟨w.heap.size, 2, none⟩ = some (.slice P k ex)) (by kernel_rfl) hst (fun hHeld => ?_)
              clear hst
              generalize hV : wr.drew = U4x0 at hHeld WW XC ⊢
              clear hV
              refine AnyL_take (i := 0) (oi := oq10_16_0) (v := ?_) rfl (by kernel_rfl) (by kernel_rfl) (by kernel_rfl) (by kernel_rfl) (fun _ _ _ h => h) (Or.inl ⟨by rfl, ?_⟩) (by assumption) ?_
              rotate_left
              · (delta oq10_16_0; intro ws hSw; (try dsimp only at hSw); (try go_simp); (try with_reducible rfl))
              (try simp only [oq10_16_0, Act.put, List.setIfInBounds_toArray, List.set_cons_zero, List.set_cons_succ])
              refine AnyL_take (i := 1) (oi := oq10_16_1) (v := ?_) rfl (by kernel_rfl) (by kernel_rfl) (by kernel_rfl) (by kernel_rfl) (fun _ _ _ h => h) (Or.inl ⟨by rfl, ?_⟩) (by assumption) ?_
              rotate_left
              · (delta oq10_16_1; intro ws hSw; (try dsimp only at hSw); (try go_simp); (try with_reducible rfl))
              (try simp only [oq10_16_1, Act.put, List.setIfInBounds_toArray, List.set_cons_zero, List.set_cons_succ])
              refine AnyL_ready (rs := [2]) (by kernel_rfl) (by simp) ?_
              refine ReadyL.cons (o := oq10_16_2) rfl (fun K hK => ?_) ReadyL.nil
              delta oq10_16_2
              go_simp
              have hbs : w.heap.size ≤ U4x0.heap.size := WW.size
              have hc := rof_2 U4x0
              refine hc.mono ?_
              clear hc
              rintro e V6 ⟨v, rfl, hv, hb⟩
              replace XC := XC.below hb XC.lt
              replace WW := WW.trans (hb.mono WW.size)
              have sz6 := hb.size
              obtain ⟨D1, d1, rfl, ho⟩ := hv
              have O1 := ho.weak (b := w.heap.size) hbs
              clear ho
              clear hb hbs
              refine hK.out _ _ (⟨(XC.cell 0).trans rfl, (XC.cell 1).trans rfl, (XC.cell 2).trans rfl⟩) (fun hHeld2 => ?_)
              clear hK K hHeld
              have hHeld := hHeld2
              clear hHeld2
              (try simp only [oq10_16_2, Act.put, List.setIfInBounds_toArray, List.set_cons_zero, List.set_cons_succ])
              refine AnyL_ready (rs := [3]) (by kernel_rfl) (by simp) ?_
              refine ReadyL.cons (o := oq10_16_3) rfl (fun K hK => ?_) ReadyL.nil
              delta oq10_16_3
              go_simp
              have hbs : w.heap.size ≤ V6.heap.size := WW.size
              have hc := rsame_any A D1 (nw a) (nw 2) c d1 a 2 V6 (HN0.out.up WW) O1.num (by omega) (by decide)
              rw [HS2.out] at hc
              refine hc.mono ?_
              clear hc
              rintro e V7 ⟨rfl, hb⟩
              replace O1 := O1.below hb (Nat.le_refl _)
              replace XC := XC.below hb XC.lt
              replace WW := WW.trans (hb.mono WW.size)
              have sz7 := hb.size
              clear hb hbs
              refine hK.out _ _ (⟨(XC.cell 0).trans rfl, (XC.cell 1).trans rfl, (XC.cell 2).trans rfl⟩) (fun hHeld2 => ?_)
              clear hK K hHeld
              have hHeld := hHeld2
              clear hHeld2
              (try simp only [oq10_16_3, Act.put, List.setIfInBounds_toArray, List.set_cons_zero, List.set_cons_succ])
              refine AnyL_take (i := 4) (oi := oq10_16_4) (v := ?_) rfl (by kernel_rfl) (by kernel_rfl) (by kernel_rfl) (by kernel_rfl) (fun _ _ _ h => h) (Or.inl ⟨by rfl, ?_⟩) (by assumption) ?_
              rotate_left
              · (delta oq10_16_4; intro ws hSw; (try dsimp only at hSw); (try go_simp); (try with_reducible rfl))
              (try simp only [oq10_16_4, Act.put, List.setIfInBounds_toArray, List.set_cons_zero, List.set_cons_succ])
              refine AnyL_done (by kernel_rfl) ?_ _
              clear hHeld
              have kXC0 : V7.cell? ⟨w.heap.size, 0, none⟩ = some (.slice A (nw a) c) := (XC.cell 0).trans rfl
              have kXC1 : V7.cell? ⟨w.heap.size, 1, none⟩ = some (.slice A' (nw b) d) := (XC.cell 1).trans rfl
              have kXC2 : V7.cell? ⟨w.heap.size, 2, none⟩ = some (.slice P k ex) := (XC.cell 2).trans rfl
              have zXC := XC.lt
              go_wp2_with fail
              go_ret
              exact ⟨rfl, WW⟩
            · have l2 : (((k : Nat) : Int) == 0) = false := by simp; omega
              obtain ⟨ad, e0, had, _⟩ := HP.out 0 (by omega)
              subst e0
              obtain ⟨k1, hk1⟩ : ∃ x, x = q0 % k := ⟨_, rfl⟩
              have hk1k : k1 < k := by rw [hk1]; exact Nat.mod_lt _ (by omega)
              have tr : Int.tmod ((q0 : Nat) : Int) ((k : Nat) : Int) = ((k1 : Nat) : Int) := by rw [hk1]; rfl
              have hz : decide (((k : Nat) : Int) = 0) = false := by simp; omega
              clear hk1
              have hk1k2 : ((k1 : Nat) : Int) < ((k : Nat) : Int) := by omega
              by_cases hfull : k1 + 1 = ex
              · have hfu : (ex = k1 + 1) = True := eq_true hfull.symm
                have hk1ex : k1 ≤ ex := by omega
                clear hfull
                go_wp2_with fail
                have qXCo := XC.lt
                clear kXC0 kXC1 kXC2 zXC
                have bw := (Below.refl wr.heap.size wr).alloc (Nat.le_refl _) (.cells #[.slice A (nw a) c, .slice A' (nw b) d, .slice (some ad) k ex] 40)
                have OT := Blk.new wr 40 #[.slice A (nw a) c, .slice A' (nw b) d, .slice (some ad) k ex]
                replace XC := XC.below bw XC.lt
                replace WW := WW.trans (bw.mono WW.size)
                clear bw
                generalize hV : wr.alloc (.cells #[.slice A (nw a) c, .slice A' (nw b) d, .slice (some ad) k ex] 40) = V5 at XC OT WW ⊢
                clear hV
                have kXC0 : V5.cell? ⟨w.heap.size, 0, none⟩ = some (.slice A (nw a) c) := (XC.cell 0).trans rfl
                have kXC1 : V5.cell? ⟨w.heap.size, 1, none⟩ = some (.slice A' (nw b) d) := (XC.cell 1).trans rfl
                have kXC2 : V5.cell? ⟨w.heap.size, 2, none⟩ = some (.slice (some ad) k ex) := (XC.cell 2).trans rfl
                have zXC := XC.lt
                have kOT0 : V5.cell? ⟨wr.heap.size, 0, none⟩ = some (.slice A (nw a) c) := (OT.cell 0).trans rfl
                have kOT1 : V5.cell? ⟨wr.heap.size, 1, none⟩ = some (.slice A' (nw b) d) := (OT.cell 1).trans rfl
                have kOT2 : V5.cell? ⟨wr.heap.size, 2, none⟩ = some (.slice (some ad) k ex) := (OT.cell 2).trans rfl
                have zOT := OT.lt
                go_wp2_with fail
                have w1 : IntKind.i64.wrap (((k1 : Nat) : Int) + 1) = ((k1 : Nat) : Int) + 1 := IntWalk.i64_in _ (by omega)
                have w2 : (0 : Int) ≤ ((k1 : Nat) : Int) + 1 := by omega
                have w3 : (((k1 : Nat) : Int) + 1).toNat = k1 + 1 := by omega
                have w4 : ((k1 : Nat) : Int) + 1 ≤ ((k : Nat) : Int) := by omega
                have HRA : Hid (∀ V, Below w.heap.size w V → RowAt V V.heap.size ad (flat (trp X Y Z (List.range' 0 k1)))) := (show ∀ V, _ → _ from fun V hV => row_parts HK.out had HP.out HTT.out hV (by omega) rfl (fun j hj => by rw [Nat.zero_mul, Nat.zero_add]))
                have HRB : Hid (∀ V, Below w.heap.size w V → RowAt V V.heap.size ad (flat (trp X Y Z (List.range' (k1 + 1) (k - (k1 + 1)))))) := (show ∀ V, _ → _ from fun V hV => row_parts HK.out had HP.out HTT.out hV (by omega) rfl (fun j hj => absurd hj (by have := of_eq_true hfu; omega)))
                have HLA : Hid ((flat (trp X Y Z (List.range' 0 k1))).length = k1 * 3) := (show _ = _ by rw [trp_len]; simp)
                have HLB : Hid ((flat (trp X Y Z (List.range' (k1 + 1) (k - (k1 + 1))))).length = (k - (k1 + 1)) * 3) := (show _ = _ by rw [trp_len]; simp)
                have hk1000 : k ≤ 1000 := by rw [← HK.out]; exact ver_len HVV.out
                have hst : (fun w' => w'.cell? ⟨w.heap.size, 0, none⟩ = some (.slice A (nw a) c) ∧ w'.cell? ⟨w.heap.size, 1, none⟩ = some (.slice A' (nw b) d) ∧ w'.cell? ⟨w.heap.size, 2, none⟩ = some (.slice (some ad) k ex)) V5.drew := ⟨(XC.cell 0).trans rfl, (XC.cell 1).trans rfl, (XC.cell 2).trans rfl⟩
                clear kXC0 kXC1 kXC2 zXC kOT0 kOT1 kOT2 zOT
                replace WW := WW.drew
                replace XC : Blk V5.drew (w.heap.size) 40 #[.slice A (nw a) c, .slice A' (nw b) d, .slice (some ad) k ex] := XC
                replace OT : Blk V5.drew (wr.heap.size) 40 #[.slice A (nw a) c, .slice A' (nw b) d, .slice (some ad) k ex] := OT
                refine region_L 20 (fun w' => w'.cell? ⟨w.heap.size, 0, none⟩ = some (.slice A (nw a) c) ∧ w'.cell? ⟨w.heap.size, 1, none⟩ = some (.slice A' (nw b) d) ∧ w'.cell? ⟨w.heap.size, 2, none⟩ = some (.slice (some ad) k ex)) (by kernel_rfl) hst (fun hHeld => ?_)
                clear hst
                generalize hV : V5.drew = U5x0 at hHeld WW XC OT ⊢
                clear hV
                refine AnyL_take (i := 0) (oi := oq10_19_0) (v := ?_) rfl (by kernel_rfl) (by kernel_rfl) (by kernel_rfl) (by kernel_rfl) (fun _ _ _ h => h) (Or.inl ⟨by rfl, ?_⟩) (by assumption) ?_
                rotate_left
                · (delta oq10_19_0; intro ws hSw; (try dsimp only at hSw); (try go_simp); (try with_reducible rfl))
                (try simp only [oq10_19_0, Act.put, List.setIfInBounds_toArray, List.set_cons_zero, List.set_cons_succ])
                refine AnyL_take (i := 1) (oi := oq10_19_1) (v := ?_) rfl (by kernel_rfl) (by kernel_rfl) (by kernel_rfl) (by kernel_rfl) (fun _ _ _ h => h) (Or.inl ⟨by rfl, ?_⟩) (by assumption) ?_
                rotate_left
                · (delta oq10_19_1; intro ws hSw; (try dsimp only at hSw); (try go_simp); (try with_reducible rfl))
                (try simp only [oq10_19_1, Act.put, List.setIfInBounds_toArray, List.set_cons_zero, List.set_cons_succ])
                refine AnyL_take (i := 2) (oi := oq10_19_2) (v := ?_) rfl (by kernel_rfl) (by kernel_rfl) (by kernel_rfl) (by kernel_rfl) (fun _ _ _ h => h) (Or.inl ⟨by rfl, ?_⟩) (by assumption) ?_
                rotate_left
                · (delta oq10_19_2; intro ws hSw; (try dsimp only at hSw); (try go_simp); (try with_reducible rfl))
                (try simp only [oq10_19_2, Act.put, List.setIfInBounds_toArray, List.set_cons_zero, List.set_cons_succ])
                refine AnyL_take (i := 3) (oi := oq10_19_3) (v := ?_) rfl (by kernel_rfl) (by kernel_rfl) (by kernel_rfl) (by kernel_rfl) (fun _ _ _ h => h) (Or.inl ⟨by rfl, ?_⟩) (by assumption) ?_
                rotate_left
                · (delta oq10_19_3; intro ws hSw; (try dsimp only at hSw); (try go_simp); (try with_reducible rfl))
                (try simp only [oq10_19_3, Act.put, List.setIfInBounds_toArray, List.set_cons_zero, List.set_cons_succ])
                refine AnyL_take (i := 4) (oi := oq10_19_4) (v := ?_) rfl (by kernel_rfl) (by kernel_rfl) (by kernel_rfl) (by kernel_rfl) (fun _ _ _ h => h) (Or.inl ⟨by rfl, ?_⟩) (by assumption) ?_
                rotate_left
                · (delta oq10_19_4; intro ws hSw; (try dsimp only at hSw); (try go_simp); (try with_reducible rfl))
                (try simp only [oq10_19_4, Act.put, List.setIfInBounds_toArray, List.set_cons_zero, List.set_cons_succ])
                refine AnyL_take (i := 5) (oi := oq10_19_5) (v := ?_) rfl (by kernel_rfl) (by kernel_rfl) (by kernel_rfl) (by kernel_rfl) (fun _ _ _ h => h) (Or.inl ⟨by rfl, ?_⟩) (by assumption) ?_
                rotate_left
                · (delta oq10_19_5; intro ws hSw; (try dsimp only at hSw); (try go_simp); (try with_reducible rfl))
                (try simp only [oq10_19_5, Act.put, List.setIfInBounds_toArray, List.set_cons_zero, List.set_cons_succ])
                refine AnyL_take (i := 6) (oi := oq10_19_6) (v := ?_) rfl (by kernel_rfl) (by kernel_rfl) (by kernel_rfl) (by kernel_rfl) (fun _ _ _ h => h) (Or.inl ⟨by rfl, ?_⟩) (by assumption) ?_
                rotate_left
                · (delta oq10_19_6; intro ws hSw; (try dsimp only at hSw); (try go_simp); (try with_reducible rfl))
                (try simp only [oq10_19_6, Act.put, List.setIfInBounds_toArray, List.set_cons_zero, List.set_cons_succ])
                refine AnyL_take (i := 7) (oi := oq10_19_7) (v := ?_) rfl (by kernel_rfl) (by kernel_rfl) (by kernel_rfl) (by kernel_rfl) (fun _ _ _ h => h) (Or.inl ⟨by rfl, ?_⟩) (by assumption) ?_
                rotate_left
                · (delta oq10_19_7; intro ws hSw; (try dsimp only at hSw); (try go_simp); (try with_reducible rfl))
                (try simp only [oq10_19_7, Act.put, List.setIfInBounds_toArray, List.set_cons_zero, List.set_cons_succ])
                refine AnyL_take (i := 8) (oi := oq10_19_8) (v := ?_) rfl (by kernel_rfl) (by kernel_rfl) (by kernel_rfl) (by kernel_rfl) (fun _ _ _ h => h) (Or.inl ⟨by rfl, ?_⟩) (by assumption) ?_
                rotate_left
                · (delta oq10_19_8; intro ws hSw; (try dsimp only at hSw); (try go_simp); (try with_reducible rfl))
                (try simp only [oq10_19_8, Act.put, List.setIfInBounds_toArray, List.set_cons_zero, List.set_cons_succ])
                refine AnyL_ready (rs := [9]) (by kernel_rfl) (by simp) ?_
                refine ReadyL.cons (o := oq10_19_9) rfl (fun K hK => ?_) ReadyL.nil
                delta oq10_19_9
                go_simp
                have lqXC := XC.lt
                have lqOT := OT.lt
                have ba := (Below.refl U5x0.heap.size U5x0).alloc (Nat.le_refl _) (.cells #[.slice (some ad) k1 ex, .slice (some ad) (k - (k1 + 1)) (ex - (k1 + 1))] 38)
                replace XC := XC.below ba XC.lt
                replace OT := OT.below ba OT.lt
                have BL := Blk.new U5x0 38 #[.slice (some ad) k1 ex, .slice (some ad) (k - (k1 + 1)) (ex - (k1 + 1))]
                replace WW := WW.trans (ba.mono WW.size)
                refine hK.out _ _ (⟨(XC.cell 0).trans rfl, (XC.cell 1).trans rfl, (XC.cell 2).trans rfl⟩) (fun hHeld2 => ?_)
                clear hK K hHeld ba
                (try simp only [oq10_19_9, Act.put, List.setIfInBounds_toArray, List.set_cons_zero, List.set_cons_succ])
                generalize hV : U5x0.alloc (.cells #[.slice (some ad) k1 ex, .slice (some ad) (k - (k1 + 1)) (ex - (k1 + 1))] 38) = V7 at hHeld2 WW BL XC OT ⊢
                clear hV
                have hHeld := hHeld2
                clear hHeld2
                have lqb := BL.lt
                refine AnyL_ready (rs := [10]) (by kernel_rfl) (by simp) ?_
                refine ReadyL.cons (o := oq10_19_10) rfl (fun K hK => ?_) ReadyL.nil
                delta oq10_19_10
                go_simp
                have hbs : w.heap.size ≤ V7.heap.size := WW.size
                have hc := concat_any _ k1 (k - (k1 + 1)) ex (ex - (k1 + 1)) ad ad _ _ V7 BL (HRA.out _ WW) (HRB.out _ WW) HLA.out HLB.out (by omega) (by omega)
                refine hc.mono ?_
                clear hc
                rintro e V8 ⟨vr, rfl, hrow, hb⟩
                replace XC := XC.below hb XC.lt
                replace OT := OT.below hb OT.lt
                replace BL := BL.below hb BL.lt
                replace WW := WW.trans (hb.mono WW.size)
                have sz8 := hb.size
                obtain ⟨PR, cr, rfl⟩ := row_slc hrow
                have HRN := RowN.of hrow
                clear hrow
                clear hb hbs
                refine hK.out _ _ (⟨(XC.cell 0).trans rfl, (XC.cell 1).trans rfl, (XC.cell 2).trans rfl⟩) (fun hHeld2 => ?_)
                clear hK K hHeld
                have hHeld := hHeld2
                clear hHeld2
                (try simp only [oq10_19_10, Act.put, List.setIfInBounds_toArray, List.set_cons_zero, List.set_cons_succ])
                refine AnyL_take (i := 11) (oi := oq10_19_11) (v := ?_) rfl (by kernel_rfl) (by kernel_rfl) (by kernel_rfl) (by kernel_rfl) (fun _ _ _ h => h) (Or.inl ⟨by rfl, ?_⟩) (by assumption) ?_
                rotate_left
                · (delta oq10_19_11; intro ws hSw; (try dsimp only at hSw); (try go_simp); (try with_reducible rfl))
                (try simp only [oq10_19_11, Act.put, List.setIfInBounds_toArray, List.set_cons_zero, List.set_cons_succ])
                refine AnyL_ready (rs := [12]) (by kernel_rfl) (by simp) ?_
                refine ReadyL.cons (o := oq10_19_12) rfl (fun K hK => ?_) ReadyL.nil
                delta oq10_19_12
                have fz := OT.frozen 2
                have cz : V8.cell? ⟨wr.heap.size, 2, none⟩ = some (.slice (some ad) k ex) := (OT.cell 2).trans rfl
                have lz := OT.lt
                have lqXC := XC.lt
                have lqOT := OT.lt
                have lqBL := BL.lt
                go_simp
                replace XC := XC.far (p := ⟨wr.heap.size, 2, none⟩) (by simp <;> omega) (.slice PR (k1 + (k - (k1 + 1))) cr)
                replace BL := BL.far (p := ⟨wr.heap.size, 2, none⟩) (by simp <;> omega) (.slice PR (k1 + (k - (k1 + 1))) cr)
                have OT2 : Blk (V8.setCell ⟨wr.heap.size, 2, none⟩ (.slice PR (k1 + (k - (k1 + 1))) cr)) (wr.heap.size) 40 #[.slice A (nw a) c, .slice A' (nw b) d, .slice PR (k1 + (k - (k1 + 1))) cr] := OT.set_ 2 (.slice PR (k1 + (k - (k1 + 1))) cr)
                clear OT
                have OT := OT2
                clear OT2
                have HRN2 := HRN.far (p := ⟨wr.heap.size, 2, none⟩) (.inl (by simp <;> omega)) (.slice PR (k1 + (k - (k1 + 1))) cr)
                clear HRN
                have HRN := HRN2
                clear HRN2
                replace WW := WW.setCell (p := ⟨wr.heap.size, 2, none⟩) (by simp <;> omega) (.slice PR (k1 + (k - (k1 + 1))) cr)
                refine hK.out _ _ (⟨(XC.cell 0).trans rfl, (XC.cell 1).trans rfl, (XC.cell 2).trans rfl⟩) (fun hHeld2 => ?_)
                clear hK K hHeld fz cz lz
                (try simp only [oq10_19_12, Act.put, List.setIfInBounds_toArray, List.set_cons_zero, List.set_cons_succ])
                generalize hV : V8.setCell ⟨wr.heap.size, 2, none⟩ (.slice PR (k1 + (k - (k1 + 1))) cr) = V9 at hHeld2 WW XC OT BL HRN ⊢
                clear hV
                have hHeld := hHeld2
                clear hHeld2
                refine AnyL_done (by kernel_rfl) ?_ _
                clear hHeld
                have kXC0 : V9.cell? ⟨w.heap.size, 0, none⟩ = some (.slice A (nw a) c) := (XC.cell 0).trans rfl
                have kXC1 : V9.cell? ⟨w.heap.size, 1, none⟩ = some (.slice A' (nw b) d) := (XC.cell 1).trans rfl
                have kXC2 : V9.cell? ⟨w.heap.size, 2, none⟩ = some (.slice (some ad) k ex) := (XC.cell 2).trans rfl
                have zXC := XC.lt
                have kOT0 : V9.cell? ⟨wr.heap.size, 0, none⟩ = some (.slice A (nw a) c) := (OT.cell 0).trans rfl
                have kOT1 : V9.cell? ⟨wr.heap.size, 1, none⟩ = some (.slice A' (nw b) d) := (OT.cell 1).trans rfl
                have kOT2 : V9.cell? ⟨wr.heap.size, 2, none⟩ = some (.slice PR (k1 + (k - (k1 + 1))) cr) := (OT.cell 2).trans rfl
                have zOT := OT.lt
                have zBL := BL.lt
                clear w1 w2 w3 w4 hfu BL lqb
                have hUO := HRN.1
                go_wp2_with fail
                have qXCn := XC.lt
                have qOTn := OT.lt
                clear kXC0 kXC1 kXC2 zXC kOT0 kOT1 kOT2 zOT
                have bw := (Below.refl V9.heap.size V9).alloc (Nat.le_refl _) (.cells #[.slice A (nw a) c, .slice A' (nw b) d, .slice (some ad) k ex] 40)
                have ON := Blk.new V9 40 #[.slice A (nw a) c, .slice A' (nw b) d, .slice (some ad) k ex]
                replace XC := XC.below bw XC.lt
                replace OT := OT.below bw OT.lt
                replace HRN := HRN.below bw
                replace WW := WW.trans (bw.mono WW.size)
                clear bw
                generalize hV : V9.alloc (.cells #[.slice A (nw a) c, .slice A' (nw b) d, .slice (some ad) k ex] 40) = V10 at XC OT ON HRN WW ⊢
                clear hV
                have kXC0 : V10.cell? ⟨w.heap.size, 0, none⟩ = some (.slice A (nw a) c) := (XC.cell 0).trans rfl
                have kXC1 : V10.cell? ⟨w.heap.size, 1, none⟩ = some (.slice A' (nw b) d) := (XC.cell 1).trans rfl
                have kXC2 : V10.cell? ⟨w.heap.size, 2, none⟩ = some (.slice (some ad) k ex) := (XC.cell 2).trans rfl
                have zXC := XC.lt
                have kOT0 : V10.cell? ⟨wr.heap.size, 0, none⟩ = some (.slice A (nw a) c) := (OT.cell 0).trans rfl
                have kOT1 : V10.cell? ⟨wr.heap.size, 1, none⟩ = some (.slice A' (nw b) d) := (OT.cell 1).trans rfl
                have kOT2 : V10.cell? ⟨wr.heap.size, 2, none⟩ = some (.slice PR (k1 + (k - (k1 + 1))) cr) := (OT.cell 2).trans rfl
                have zOT := OT.lt
                have kON0 : V10.cell? ⟨V9.heap.size, 0, none⟩ = some (.slice A (nw a) c) := (ON.cell 0).trans rfl
                have kON1 : V10.cell? ⟨V9.heap.size, 1, none⟩ = some (.slice A' (nw b) d) := (ON.cell 1).trans rfl
                have kON2 : V10.cell? ⟨V9.heap.size, 2, none⟩ = some (.slice (some ad) k ex) := (ON.cell 2).trans rfl
                have zON := ON.lt
                go_wp2_with fail
                have hbs : w.heap.size ≤ V10.heap.size := WW.size
                have hc := rof_1s V10
                refine hc.mono ?_
                clear hc
                rintro e V11 ⟨v, rfl, hv, hb⟩
                clear kXC0 kXC1 kXC2 zXC kOT0 kOT1 kOT2 zOT kON0 kON1 kON2 zON
                replace XC := XC.below hb XC.lt
                replace OT := OT.below hb OT.lt
                replace ON := ON.below hb ON.lt
                replace HRN := HRN.below hb
                replace WW := WW.trans (hb.mono WW.size)
                obtain ⟨D30, d30, rfl, ho⟩ := hv
                have O30 := ho.weak (b := w.heap.size) hbs
                clear ho
                have kXC0 : V11.cell? ⟨w.heap.size, 0, none⟩ = some (.slice A (nw a) c) := (XC.cell 0).trans rfl
                have kXC1 : V11.cell? ⟨w.heap.size, 1, none⟩ = some (.slice A' (nw b) d) := (XC.cell 1).trans rfl
                have kXC2 : V11.cell? ⟨w.heap.size, 2, none⟩ = some (.slice (some ad) k ex) := (XC.cell 2).trans rfl
                have zXC := XC.lt
                have kOT0 : V11.cell? ⟨wr.heap.size, 0, none⟩ = some (.slice A (nw a) c) := (OT.cell 0).trans rfl
                have kOT1 : V11.cell? ⟨wr.heap.size, 1, none⟩ = some (.slice A' (nw b) d) := (OT.cell 1).trans rfl
                have kOT2 : V11.cell? ⟨wr.heap.size, 2, none⟩ = some (.slice PR (k1 + (k - (k1 + 1))) cr) := (OT.cell 2).trans rfl
                have zOT := OT.lt
                have kON0 : V11.cell? ⟨V9.heap.size, 0, none⟩ = some (.slice A (nw a) c) := (ON.cell 0).trans rfl
                have kON1 : V11.cell? ⟨V9.heap.size, 1, none⟩ = some (.slice A' (nw b) d) := (ON.cell 1).trans rfl
                have kON2 : V11.cell? ⟨V9.heap.size, 2, none⟩ = some (.slice (some ad) k ex) := (ON.cell 2).trans rfl
                have zON := ON.lt
                clear hb hbs
                have fON := ON.frozen 1
                go_wp2_with fail
                clear kXC0 kXC1 kXC2 zXC kOT0 kOT1 kOT2 zOT kON0 kON1 kON2 zON fON
                have qXC := XC.lt
                have qOT := OT.lt
                replace XC := XC.far (p := ⟨V9.heap.size, 1, none⟩) (by simp <;> omega) (.slice D30 (nw 1) d30)
                replace OT := OT.far (p := ⟨V9.heap.size, 1, none⟩) (by simp <;> omega) (.slice D30 (nw 1) d30)
                replace O30 := O30.box (p := ⟨V9.heap.size, 1, none⟩) ON (by decide) (.slice D30 (nw 1) d30)
                have ON2 : Blk (V11.setCell ⟨V9.heap.size, 1, none⟩ (.slice D30 (nw 1) d30)) (V9.heap.size) 40 #[.slice A (nw a) c, .slice D30 (nw 1) d30, .slice (some ad) k ex] := ON.set_ 1 (.slice D30 (nw 1) d30)
                clear ON
                have ON := ON2
                clear ON2
                replace HRN := HRN.far (p := ⟨V9.heap.size, 1, none⟩) (.inr hUO) (.slice D30 (nw 1) d30)
                replace WW := WW.setCell (p := ⟨V9.heap.size, 1, none⟩) (by simp <;> omega) (.slice D30 (nw 1) d30)
                generalize hV : V11.setCell ⟨V9.heap.size, 1, none⟩ (.slice D30 (nw 1) d30) = V90 at XC OT ON O30 HRN WW ⊢
                clear hV
                have kXC0 : V90.cell? ⟨w.heap.size, 0, none⟩ = some (.slice A (nw a) c) := (XC.cell 0).trans rfl
                have kXC1 : V90.cell? ⟨w.heap.size, 1, none⟩ = some (.slice A' (nw b) d) := (XC.cell 1).trans rfl
                have kXC2 : V90.cell? ⟨w.heap.size, 2, none⟩ = some (.slice (some ad) k ex) := (XC.cell 2).trans rfl
                have zXC := XC.lt
                have kOT0 : V90.cell? ⟨wr.heap.size, 0, none⟩ = some (.slice A (nw a) c) := (OT.cell 0).trans rfl
                have kOT1 : V90.cell? ⟨wr.heap.size, 1, none⟩ = some (.slice A' (nw b) d) := (OT.cell 1).trans rfl
                have kOT2 : V90.cell? ⟨wr.heap.size, 2, none⟩ = some (.slice PR (k1 + (k - (k1 + 1))) cr) := (OT.cell 2).trans rfl
                have zOT := OT.lt
                have kON0 : V90.cell? ⟨V9.heap.size, 0, none⟩ = some (.slice A (nw a) c) := (ON.cell 0).trans rfl
                have kON1 : V90.cell? ⟨V9.heap.size, 1, none⟩ = some (.slice D30 (nw 1) d30) := (ON.cell 1).trans rfl
                have kON2 : V90.cell? ⟨V9.heap.size, 2, none⟩ = some (.slice (some ad) k ex) := (ON.cell 2).trans rfl
                have zON := ON.lt
                have hkl : k1 < ps.length := by rw [HK.out]; exact hk1k
                have HVO := hid (ver_other HVV.out hkl)
                have HV1 := hid (ver_one (m' := nw 1) HVV.out (by omega))
                have hba' : nw b ≤ 9223372036854775807 := by omega
                have hna' : nw a ≤ 9223372036854775807 := by omega
                have hbs : w.heap.size ≤ V90.heap.size := WW.size
                have hc := verify_any _ _ _ _ V90 (cv_other (c := c) (d := d) (cr := cr) WW HK.out hk2 hk1k (HN0.out.up WW) (HB0.out.up WW) hna' hba' HTT.out HRN)
                rw [HVO.out] at hc
                refine hc.mono ?_
                clear hc
                rintro e V12 ⟨rfl, hb⟩
                clear kXC0 kXC1 kXC2 zXC kOT0 kOT1 kOT2 zOT kON0 kON1 kON2 zON
                replace O30 := O30.below hb (Nat.le_refl _)
                replace XC := XC.below hb XC.lt
                replace OT := OT.below hb OT.lt
                replace ON := ON.below hb ON.lt
                replace HRN := HRN.below hb
                replace WW := WW.trans (hb.mono WW.size)
                have kXC0 : V12.cell? ⟨w.heap.size, 0, none⟩ = some (.slice A (nw a) c) := (XC.cell 0).trans rfl
                have kXC1 : V12.cell? ⟨w.heap.size, 1, none⟩ = some (.slice A' (nw b) d) := (XC.cell 1).trans rfl
                have kXC2 : V12.cell? ⟨w.heap.size, 2, none⟩ = some (.slice (some ad) k ex) := (XC.cell 2).trans rfl
                have zXC := XC.lt
                have kOT0 : V12.cell? ⟨wr.heap.size, 0, none⟩ = some (.slice A (nw a) c) := (OT.cell 0).trans rfl
                have kOT1 : V12.cell? ⟨wr.heap.size, 1, none⟩ = some (.slice A' (nw b) d) := (OT.cell 1).trans rfl
                have kOT2 : V12.cell? ⟨wr.heap.size, 2, none⟩ = some (.slice PR (k1 + (k - (k1 + 1))) cr) := (OT.cell 2).trans rfl
                have zOT := OT.lt
                have kON0 : V12.cell? ⟨V9.heap.size, 0, none⟩ = some (.slice A (nw a) c) := (ON.cell 0).trans rfl
                have kON1 : V12.cell? ⟨V9.heap.size, 1, none⟩ = some (.slice D30 (nw 1) d30) := (ON.cell 1).trans rfl
                have kON2 : V12.cell? ⟨V9.heap.size, 2, none⟩ = some (.slice (some ad) k ex) := (ON.cell 2).trans rfl
                have zON := ON.lt
                clear hb hbs
                go_wp2_with fail
                have hbs : w.heap.size ≤ V12.heap.size := WW.size
                have hc := verify_any _ _ _ _ V12 (cv_one (d1 := d30) HV.out WW O30.num)
                rw [HV1.out] at hc
                refine hc.mono ?_
                clear hc
                rintro e V13 ⟨rfl, hb⟩
                clear kXC0 kXC1 kXC2 zXC kOT0 kOT1 kOT2 zOT kON0 kON1 kON2 zON
                replace O30 := O30.below hb (Nat.le_refl _)
                replace XC := XC.below hb XC.lt
                replace OT := OT.below hb OT.lt
                replace ON := ON.below hb ON.lt
                replace HRN := HRN.below hb
                replace WW := WW.trans (hb.mono WW.size)
                have kXC0 : V13.cell? ⟨w.heap.size, 0, none⟩ = some (.slice A (nw a) c) := (XC.cell 0).trans rfl
                have kXC1 : V13.cell? ⟨w.heap.size, 1, none⟩ = some (.slice A' (nw b) d) := (XC.cell 1).trans rfl
                have kXC2 : V13.cell? ⟨w.heap.size, 2, none⟩ = some (.slice (some ad) k ex) := (XC.cell 2).trans rfl
                have zXC := XC.lt
                have kOT0 : V13.cell? ⟨wr.heap.size, 0, none⟩ = some (.slice A (nw a) c) := (OT.cell 0).trans rfl
                have kOT1 : V13.cell? ⟨wr.heap.size, 1, none⟩ = some (.slice A' (nw b) d) := (OT.cell 1).trans rfl
                have kOT2 : V13.cell? ⟨wr.heap.size, 2, none⟩ = some (.slice PR (k1 + (k - (k1 + 1))) cr) := (OT.cell 2).trans rfl
                have zOT := OT.lt
                have kON0 : V13.cell? ⟨V9.heap.size, 0, none⟩ = some (.slice A (nw a) c) := (ON.cell 0).trans rfl
                have kON1 : V13.cell? ⟨V9.heap.size, 1, none⟩ = some (.slice D30 (nw 1) d30) := (ON.cell 1).trans rfl
                have kON2 : V13.cell? ⟨V9.heap.size, 2, none⟩ = some (.slice (some ad) k ex) := (ON.cell 2).trans rfl
                have zON := ON.lt
                clear hb hbs
                go_wp2_with fail
                go_ret
                exact ⟨rfl, WW⟩
              · have hfu : (ex = k1 + 1) = False := eq_false (fun e => hfull e.symm)
                have hk1ex : k1 ≤ ex := by omega
                clear hfull
                go_wp2_with fail
                have qXCo := XC.lt
                clear kXC0 kXC1 kXC2 zXC
                have bw := (Below.refl wr.heap.size wr).alloc (Nat.le_refl _) (.cells #[.slice A (nw a) c, .slice A' (nw b) d, .slice (some ad) k ex] 40)
                have OT := Blk.new wr 40 #[.slice A (nw a) c, .slice A' (nw b) d, .slice (some ad) k ex]
                replace XC := XC.below bw XC.lt
                replace WW := WW.trans (bw.mono WW.size)
                clear bw
                generalize hV : wr.alloc (.cells #[.slice A (nw a) c, .slice A' (nw b) d, .slice (some ad) k ex] 40) = V5 at XC OT WW ⊢
                clear hV
                have kXC0 : V5.cell? ⟨w.heap.size, 0, none⟩ = some (.slice A (nw a) c) := (XC.cell 0).trans rfl
                have kXC1 : V5.cell? ⟨w.heap.size, 1, none⟩ = some (.slice A' (nw b) d) := (XC.cell 1).trans rfl
                have kXC2 : V5.cell? ⟨w.heap.size, 2, none⟩ = some (.slice (some ad) k ex) := (XC.cell 2).trans rfl
                have zXC := XC.lt
                have kOT0 : V5.cell? ⟨wr.heap.size, 0, none⟩ = some (.slice A (nw a) c) := (OT.cell 0).trans rfl
                have kOT1 : V5.cell? ⟨wr.heap.size, 1, none⟩ = some (.slice A' (nw b) d) := (OT.cell 1).trans rfl
                have kOT2 : V5.cell? ⟨wr.heap.size, 2, none⟩ = some (.slice (some ad) k ex) := (OT.cell 2).trans rfl
                have zOT := OT.lt
                go_wp2_with fail
                have w1 : IntKind.i64.wrap (((k1 : Nat) : Int) + 1) = ((k1 : Nat) : Int) + 1 := IntWalk.i64_in _ (by omega)
                have w2 : (0 : Int) ≤ ((k1 : Nat) : Int) + 1 := by omega
                have w3 : (((k1 : Nat) : Int) + 1).toNat = k1 + 1 := by omega
                have w4 : ((k1 : Nat) : Int) + 1 ≤ ((k : Nat) : Int) := by omega
                have HRA : Hid (∀ V, Below w.heap.size w V → RowAt V V.heap.size ad (flat (trp X Y Z (List.range' 0 k1)))) := (show ∀ V, _ → _ from fun V hV => row_parts HK.out had HP.out HTT.out hV (by omega) rfl (fun j hj => by rw [Nat.zero_mul, Nat.zero_add]))
                have HRB : Hid (∀ V, Below w.heap.size w V → RowAt V V.heap.size (ad.add ((k1 + 1) * 3)) (flat (trp X Y Z (List.range' (k1 + 1) (k - (k1 + 1)))))) := (show ∀ V, _ → _ from fun V hV => row_parts HK.out had HP.out HTT.out hV (by omega) (add_block _ _) (fun j hj => add_add2 _ _ _))
                have HLA : Hid ((flat (trp X Y Z (List.range' 0 k1))).length = k1 * 3) := (show _ = _ by rw [trp_len]; simp)
                have HLB : Hid ((flat (trp X Y Z (List.range' (k1 + 1) (k - (k1 + 1))))).length = (k - (k1 + 1)) * 3) := (show _ = _ by rw [trp_len]; simp)
                have hk1000 : k ≤ 1000 := by rw [← HK.out]; exact ver_len HVV.out
                have hst : (fun w' => w'.cell? ⟨w.heap.size, 0, none⟩ = some (.slice A (nw a) c) ∧ w'.cell? ⟨w.heap.size, 1, none⟩ = some (.slice A' (nw b) d) ∧ w'.cell? ⟨w.heap.size, 2, none⟩ = some (.slice (some ad) k ex)) V5.drew := ⟨(XC.cell 0).trans rfl, (XC.cell 1).trans rfl, (XC.cell 2).trans rfl⟩
                clear kXC0 kXC1 kXC2 zXC kOT0 kOT1 kOT2 zOT
                replace WW := WW.drew
                replace XC : Blk V5.drew (w.heap.size) 40 #[.slice A (nw a) c, .slice A' (nw b) d, .slice (some ad) k ex] := XC
                replace OT : Blk V5.drew (wr.heap.size) 40 #[.slice A (nw a) c, .slice A' (nw b) d, .slice (some ad) k ex] := OT
                refine region_L 20 (fun w' => w'.cell? ⟨w.heap.size, 0, none⟩ = some (.slice A (nw a) c) ∧ w'.cell? ⟨w.heap.size, 1, none⟩ = some (.slice A' (nw b) d) ∧ w'.cell? ⟨w.heap.size, 2, none⟩ = some (.slice (some ad) k ex)) (by kernel_rfl) hst (fun hHeld => ?_)
                clear hst
                generalize hV : V5.drew = U5x0 at hHeld WW XC OT ⊢
                clear hV
                refine AnyL_take (i := 0) (oi := oq10_19_0) (v := ?_) rfl (by kernel_rfl) (by kernel_rfl) (by kernel_rfl) (by kernel_rfl) (fun _ _ _ h => h) (Or.inl ⟨by rfl, ?_⟩) (by assumption) ?_
                rotate_left
                · (delta oq10_19_0; intro ws hSw; (try dsimp only at hSw); (try go_simp); (try with_reducible rfl))
                (try simp only [oq10_19_0, Act.put, List.setIfInBounds_toArray, List.set_cons_zero, List.set_cons_succ])
                refine AnyL_take (i := 1) (oi := oq10_19_1) (v := ?_) rfl (by kernel_rfl) (by kernel_rfl) (by kernel_rfl) (by kernel_rfl) (fun _ _ _ h => h) (Or.inl ⟨by rfl, ?_⟩) (by assumption) ?_
                rotate_left
                · (delta oq10_19_1; intro ws hSw; (try dsimp only at hSw); (try go_simp); (try with_reducible rfl))
                (try simp only [oq10_19_1, Act.put, List.setIfInBounds_toArray, List.set_cons_zero, List.set_cons_succ])
                refine AnyL_take (i := 2) (oi := oq10_19_2) (v := ?_) rfl (by kernel_rfl) (by kernel_rfl) (by kernel_rfl) (by kernel_rfl) (fun _ _ _ h => h) (Or.inl ⟨by rfl, ?_⟩) (by assumption) ?_
                rotate_left
                · (delta oq10_19_2; intro ws hSw; (try dsimp only at hSw); (try go_simp); (try with_reducible rfl))
                (try simp only [oq10_19_2, Act.put, List.setIfInBounds_toArray, List.set_cons_zero, List.set_cons_succ])
                refine AnyL_take (i := 3) (oi := oq10_19_3) (v := ?_) rfl (by kernel_rfl) (by kernel_rfl) (by kernel_rfl) (by kernel_rfl) (fun _ _ _ h => h) (Or.inl ⟨by rfl, ?_⟩) (by assumption) ?_
                rotate_left
                · (delta oq10_19_3; intro ws hSw; (try dsimp only at hSw); (try go_simp); (try with_reducible rfl))
                (try simp only [oq10_19_3, Act.put, List.setIfInBounds_toArray, List.set_cons_zero, List.set_cons_succ])
                refine AnyL_take (i := 4) (oi := oq10_19_4) (v := ?_) rfl (by kernel_rfl) (by kernel_rfl) (by kernel_rfl) (by kernel_rfl) (fun _ _ _ h => h) (Or.inl ⟨by rfl, ?_⟩) (by assumption) ?_
                rotate_left
                · (delta oq10_19_4; intro ws hSw; (try dsimp only at hSw); (try go_simp); (try with_reducible rfl))
                (try simp only [oq10_19_4, Act.put, List.setIfInBounds_toArray, List.set_cons_zero, List.set_cons_succ])
                refine AnyL_take (i := 5) (oi := oq10_19_5) (v := ?_) rfl (by kernel_rfl) (by kernel_rfl) (by kernel_rfl) (by kernel_rfl) (fun _ _ _ h => h) (Or.inl ⟨by rfl, ?_⟩) (by assumption) ?_
                rotate_left
                · (delta oq10_19_5; intro ws hSw; (try dsimp only at hSw); (try go_simp); (try with_reducible rfl))
                (try simp only [oq10_19_5, Act.put, List.setIfInBounds_toArray, List.set_cons_zero, List.set_cons_succ])
                refine AnyL_take (i := 6) (oi := oq10_19_6) (v := ?_) rfl (by kernel_rfl) (by kernel_rfl) (by kernel_rfl) (by kernel_rfl) (fun _ _ _ h => h) (Or.inl ⟨by rfl, ?_⟩) (by assumption) ?_
                rotate_left
                · (delta oq10_19_6; intro ws hSw; (try dsimp only at hSw); (try go_simp); (try with_reducible rfl))
                (try simp only [oq10_19_6, Act.put, List.setIfInBounds_toArray, List.set_cons_zero, List.set_cons_succ])
                refine AnyL_take (i := 7) (oi := oq10_19_7) (v := ?_) rfl (by kernel_rfl) (by kernel_rfl) (by kernel_rfl) (by kernel_rfl) (fun _ _ _ h => h) (Or.inl ⟨by rfl, ?_⟩) (by assumption) ?_
                rotate_left
                · (delta oq10_19_7; intro ws hSw; (try dsimp only at hSw); (try go_simp); (try with_reducible rfl))
                (try simp only [oq10_19_7, Act.put, List.setIfInBounds_toArray, List.set_cons_zero, List.set_cons_succ])
                refine AnyL_take (i := 8) (oi := oq10_19_8) (v := ?_) rfl (by kernel_rfl) (by kernel_rfl) (by kernel_rfl) (by kernel_rfl) (fun _ _ _ h => h) (Or.inl ⟨by rfl, ?_⟩) (by assumption) ?_
                rotate_left
                · (delta oq10_19_8; intro ws hSw; (try dsimp only at hSw); (try go_simp); (try with_reducible rfl))
                (try simp only [oq10_19_8, Act.put, List.setIfInBounds_toArray, List.set_cons_zero, List.set_cons_succ])
                refine AnyL_ready (rs := [9]) (by kernel_rfl) (by simp) ?_
                refine ReadyL.cons (o := oq10_19_9) rfl (fun K hK => ?_) ReadyL.nil
                delta oq10_19_9
                go_simp
                have lqXC := XC.lt
                have lqOT := OT.lt
                have ba := (Below.refl U5x0.heap.size U5x0).alloc (Nat.le_refl _) (.cells #[.slice (some ad) k1 ex, .slice (some (ad.add ((k1 + 1) * 3))) (k - (k1 + 1)) (ex - (k1 + 1))] 38)
                replace XC := XC.below ba XC.lt
                replace OT := OT.below ba OT.lt
                have BL := Blk.new U5x0 38 #[.slice (some ad) k1 ex, .slice (some (ad.add ((k1 + 1) * 3))) (k - (k1 + 1)) (ex - (k1 + 1))]
                replace WW := WW.trans (ba.mono WW.size)
                refine hK.out _ _ (⟨(XC.cell 0).trans rfl, (XC.cell 1).trans rfl, (XC.cell 2).trans rfl⟩) (fun hHeld2 => ?_)
                clear hK K hHeld ba
                (try simp only [oq10_19_9, Act.put, List.setIfInBounds_toArray, List.set_cons_zero, List.set_cons_succ])
                generalize hV : U5x0.alloc (.cells #[.slice (some ad) k1 ex, .slice (some (ad.add ((k1 + 1) * 3))) (k - (k1 + 1)) (ex - (k1 + 1))] 38) = V7 at hHeld2 WW BL XC OT ⊢
                clear hV
                have hHeld := hHeld2
                clear hHeld2
                have lqb := BL.lt
                refine AnyL_ready (rs := [10]) (by kernel_rfl) (by simp) ?_
                refine ReadyL.cons (o := oq10_19_10) rfl (fun K hK => ?_) ReadyL.nil
                delta oq10_19_10
                go_simp
                have hbs : w.heap.size ≤ V7.heap.size := WW.size
                have hc := concat_any _ k1 (k - (k1 + 1)) ex (ex - (k1 + 1)) ad (ad.add ((k1 + 1) * 3)) _ _ V7 BL (HRA.out _ WW) (HRB.out _ WW) HLA.out HLB.out (by omega) (by omega)
                refine hc.mono ?_
                clear hc
                rintro e V8 ⟨vr, rfl, hrow, hb⟩
                replace XC := XC.below hb XC.lt
                replace OT := OT.below hb OT.lt
                replace BL := BL.below hb BL.lt
                replace WW := WW.trans (hb.mono WW.size)
                have sz8 := hb.size
                obtain ⟨PR, cr, rfl⟩ := row_slc hrow
                have HRN := RowN.of hrow
                clear hrow
                clear hb hbs
                refine hK.out _ _ (⟨(XC.cell 0).trans rfl, (XC.cell 1).trans rfl, (XC.cell 2).trans rfl⟩) (fun hHeld2 => ?_)
                clear hK K hHeld
                have hHeld := hHeld2
                clear hHeld2
                (try simp only [oq10_19_10, Act.put, List.setIfInBounds_toArray, List.set_cons_zero, List.set_cons_succ])
                refine AnyL_take (i := 11) (oi := oq10_19_11) (v := ?_) rfl (by kernel_rfl) (by kernel_rfl) (by kernel_rfl) (by kernel_rfl) (fun _ _ _ h => h) (Or.inl ⟨by rfl, ?_⟩) (by assumption) ?_
                rotate_left
                · (delta oq10_19_11; intro ws hSw; (try dsimp only at hSw); (try go_simp); (try with_reducible rfl))
                (try simp only [oq10_19_11, Act.put, List.setIfInBounds_toArray, List.set_cons_zero, List.set_cons_succ])
                refine AnyL_ready (rs := [12]) (by kernel_rfl) (by simp) ?_
                refine ReadyL.cons (o := oq10_19_12) rfl (fun K hK => ?_) ReadyL.nil
                delta oq10_19_12
                have fz := OT.frozen 2
                have cz : V8.cell? ⟨wr.heap.size, 2, none⟩ = some (.slice (some ad) k ex) := (OT.cell 2).trans rfl
                have lz := OT.lt
                have lqXC := XC.lt
                have lqOT := OT.lt
                have lqBL := BL.lt
                go_simp
                replace XC := XC.far (p := ⟨wr.heap.size, 2, none⟩) (by simp <;> omega) (.slice PR (k1 + (k - (k1 + 1))) cr)
                replace BL := BL.far (p := ⟨wr.heap.size, 2, none⟩) (by simp <;> omega) (.slice PR (k1 + (k - (k1 + 1))) cr)
                have OT2 : Blk (V8.setCell ⟨wr.heap.size, 2, none⟩ (.slice PR (k1 + (k - (k1 + 1))) cr)) (wr.heap.size) 40 #[.slice A (nw a) c, .slice A' (nw b) d, .slice PR (k1 + (k - (k1 + 1))) cr] := OT.set_ 2 (.slice PR (k1 + (k - (k1 + 1))) cr)
                clear OT
                have OT := OT2
                clear OT2
                have HRN2 := HRN.far (p := ⟨wr.heap.size, 2, none⟩) (.inl (by simp <;> omega)) (.slice PR (k1 + (k - (k1 + 1))) cr)
                clear HRN
                have HRN := HRN2
                clear HRN2
                replace WW := WW.setCell (p := ⟨wr.heap.size, 2, none⟩) (by simp <;> omega) (.slice PR (k1 + (k - (k1 + 1))) cr)
                refine hK.out _ _ (⟨(XC.cell 0).trans rfl, (XC.cell 1).trans rfl, (XC.cell 2).trans rfl⟩) (fun hHeld2 => ?_)
                clear hK K hHeld fz cz lz
                (try simp only [oq10_19_12, Act.put, List.setIfInBounds_toArray, List.set_cons_zero, List.set_cons_succ])
                generalize hV : V8.setCell ⟨wr.heap.size, 2, none⟩ (.slice PR (k1 + (k - (k1 + 1))) cr) = V9 at hHeld2 WW XC OT BL HRN ⊢
                clear hV
                have hHeld := hHeld2
                clear hHeld2
                refine AnyL_done (by kernel_rfl) ?_ _
                clear hHeld
                have kXC0 : V9.cell? ⟨w.heap.size, 0, none⟩ = some (.slice A (nw a) c) := (XC.cell 0).trans rfl
                have kXC1 : V9.cell? ⟨w.heap.size, 1, none⟩ = some (.slice A' (nw b) d) := (XC.cell 1).trans rfl
                have kXC2 : V9.cell? ⟨w.heap.size, 2, none⟩ = some (.slice (some ad) k ex) := (XC.cell 2).trans rfl
                have zXC := XC.lt
                have kOT0 : V9.cell? ⟨wr.heap.size, 0, none⟩ = some (.slice A (nw a) c) := (OT.cell 0).trans rfl
                have kOT1 : V9.cell? ⟨wr.heap.size, 1, none⟩ = some (.slice A' (nw b) d) := (OT.cell 1).trans rfl
                have kOT2 : V9.cell? ⟨wr.heap.size, 2, none⟩ = some (.slice PR (k1 + (k - (k1 + 1))) cr) := (OT.cell 2).trans rfl
                have zOT := OT.lt
                have zBL := BL.lt
                clear w1 w2 w3 w4 hfu BL lqb
                have hUO := HRN.1
                go_wp2_with fail
                have qXCn := XC.lt
                have qOTn := OT.lt
                clear kXC0 kXC1 kXC2 zXC kOT0 kOT1 kOT2 zOT
                have bw := (Below.refl V9.heap.size V9).alloc (Nat.le_refl _) (.cells #[.slice A (nw a) c, .slice A' (nw b) d, .slice (some ad) k ex] 40)
                have ON := Blk.new V9 40 #[.slice A (nw a) c, .slice A' (nw b) d, .slice (some ad) k ex]
                replace XC := XC.below bw XC.lt
                replace OT := OT.below bw OT.lt
                replace HRN := HRN.below bw
                replace WW := WW.trans (bw.mono WW.size)
                clear bw
                generalize hV : V9.alloc (.cells #[.slice A (nw a) c, .slice A' (nw b) d, .slice (some ad) k ex] 40) = V10 at XC OT ON HRN WW ⊢
                clear hV
                have kXC0 : V10.cell? ⟨w.heap.size, 0, none⟩ = some (.slice A (nw a) c) := (XC.cell 0).trans rfl
                have kXC1 : V10.cell? ⟨w.heap.size, 1, none⟩ = some (.slice A' (nw b) d) := (XC.cell 1).trans rfl
                have kXC2 : V10.cell? ⟨w.heap.size, 2, none⟩ = some (.slice (some ad) k ex) := (XC.cell 2).trans rfl
                have zXC := XC.lt
                have kOT0 : V10.cell? ⟨wr.heap.size, 0, none⟩ = some (.slice A (nw a) c) := (OT.cell 0).trans rfl
                have kOT1 : V10.cell? ⟨wr.heap.size, 1, none⟩ = some (.slice A' (nw b) d) := (OT.cell 1).trans rfl
                have kOT2 : V10.cell? ⟨wr.heap.size, 2, none⟩ = some (.slice PR (k1 + (k - (k1 + 1))) cr) := (OT.cell 2).trans rfl
                have zOT := OT.lt
                have kON0 : V10.cell? ⟨V9.heap.size, 0, none⟩ = some (.slice A (nw a) c) := (ON.cell 0).trans rfl
                have kON1 : V10.cell? ⟨V9.heap.size, 1, none⟩ = some (.slice A' (nw b) d) := (ON.cell 1).trans rfl
                have kON2 : V10.cell? ⟨V9.heap.size, 2, none⟩ = some (.slice (some ad) k ex) := (ON.cell 2).trans rfl
                have zON := ON.lt
                go_wp2_with fail
                have hbs : w.heap.size ≤ V10.heap.size := WW.size
                have hc := rof_1s V10
                refine hc.mono ?_
                clear hc
                rintro e V11 ⟨v, rfl, hv, hb⟩
                clear kXC0 kXC1 kXC2 zXC kOT0 kOT1 kOT2 zOT kON0 kON1 kON2 zON
                replace XC := XC.below hb XC.lt
                replace OT := OT.below hb OT.lt
                replace ON := ON.below hb ON.lt
                replace HRN := HRN.below hb
                replace WW := WW.trans (hb.mono WW.size)
                obtain ⟨D30, d30, rfl, ho⟩ := hv
                have O30 := ho.weak (b := w.heap.size) hbs
                clear ho
                have kXC0 : V11.cell? ⟨w.heap.size, 0, none⟩ = some (.slice A (nw a) c) := (XC.cell 0).trans rfl
                have kXC1 : V11.cell? ⟨w.heap.size, 1, none⟩ = some (.slice A' (nw b) d) := (XC.cell 1).trans rfl
                have kXC2 : V11.cell? ⟨w.heap.size, 2, none⟩ = some (.slice (some ad) k ex) := (XC.cell 2).trans rfl
                have zXC := XC.lt
                have kOT0 : V11.cell? ⟨wr.heap.size, 0, none⟩ = some (.slice A (nw a) c) := (OT.cell 0).trans rfl
                have kOT1 : V11.cell? ⟨wr.heap.size, 1, none⟩ = some (.slice A' (nw b) d) := (OT.cell 1).trans rfl
                have kOT2 : V11.cell? ⟨wr.heap.size, 2, none⟩ = some (.slice PR (k1 + (k - (k1 + 1))) cr) := (OT.cell 2).trans rfl
                have zOT := OT.lt
                have kON0 : V11.cell? ⟨V9.heap.size, 0, none⟩ = some (.slice A (nw a) c) := (ON.cell 0).trans rfl
                have kON1 : V11.cell? ⟨V9.heap.size, 1, none⟩ = some (.slice A' (nw b) d) := (ON.cell 1).trans rfl
                have kON2 : V11.cell? ⟨V9.heap.size, 2, none⟩ = some (.slice (some ad) k ex) := (ON.cell 2).trans rfl
                have zON := ON.lt
                clear hb hbs
                have fON := ON.frozen 1
                go_wp2_with fail
                clear kXC0 kXC1 kXC2 zXC kOT0 kOT1 kOT2 zOT kON0 kON1 kON2 zON fON
                have qXC := XC.lt
                have qOT := OT.lt
                replace XC := XC.far (p := ⟨V9.heap.size, 1, none⟩) (by simp <;> omega) (.slice D30 (nw 1) d30)
                replace OT := OT.far (p := ⟨V9.heap.size, 1, none⟩) (by simp <;> omega) (.slice D30 (nw 1) d30)
                replace O30 := O30.box (p := ⟨V9.heap.size, 1, none⟩) ON (by decide) (.slice D30 (nw 1) d30)
                have ON2 : Blk (V11.setCell ⟨V9.heap.size, 1, none⟩ (.slice D30 (nw 1) d30)) (V9.heap.size) 40 #[.slice A (nw a) c, .slice D30 (nw 1) d30, .slice (some ad) k ex] := ON.set_ 1 (.slice D30 (nw 1) d30)
                clear ON
                have ON := ON2
                clear ON2
                replace HRN := HRN.far (p := ⟨V9.heap.size, 1, none⟩) (.inr hUO) (.slice D30 (nw 1) d30)
                replace WW := WW.setCell (p := ⟨V9.heap.size, 1, none⟩) (by simp <;> omega) (.slice D30 (nw 1) d30)
                generalize hV : V11.setCell ⟨V9.heap.size, 1, none⟩ (.slice D30 (nw 1) d30) = V90 at XC OT ON O30 HRN WW ⊢
                clear hV
                have kXC0 : V90.cell? ⟨w.heap.size, 0, none⟩ = some (.slice A (nw a) c) := (XC.cell 0).trans rfl
                have kXC1 : V90.cell? ⟨w.heap.size, 1, none⟩ = some (.slice A' (nw b) d) := (XC.cell 1).trans rfl
                have kXC2 : V90.cell? ⟨w.heap.size, 2, none⟩ = some (.slice (some ad) k ex) := (XC.cell 2).trans rfl
                have zXC := XC.lt
                have kOT0 : V90.cell? ⟨wr.heap.size, 0, none⟩ = some (.slice A (nw a) c) := (OT.cell 0).trans rfl
                have kOT1 : V90.cell? ⟨wr.heap.size, 1, none⟩ = some (.slice A' (nw b) d) := (OT.cell 1).trans rfl
                have kOT2 : V90.cell? ⟨wr.heap.size, 2, none⟩ = some (.slice PR (k1 + (k - (k1 + 1))) cr) := (OT.cell 2).trans rfl
                have zOT := OT.lt
                have kON0 : V90.cell? ⟨V9.heap.size, 0, none⟩ = some (.slice A (nw a) c) := (ON.cell 0).trans rfl
                have kON1 : V90.cell? ⟨V9.heap.size, 1, none⟩ = some (.slice D30 (nw 1) d30) := (ON.cell 1).trans rfl
                have kON2 : V90.cell? ⟨V9.heap.size, 2, none⟩ = some (.slice (some ad) k ex) := (ON.cell 2).trans rfl
                have zON := ON.lt
                have hkl : k1 < ps.length := by rw [HK.out]; exact hk1k
                have HVO := hid (ver_other HVV.out hkl)
                have HV1 := hid (ver_one (m' := nw 1) HVV.out (by omega))
                have hba' : nw b ≤ 9223372036854775807 := by omega
                have hna' : nw a ≤ 9223372036854775807 := by omega
                have hbs : w.heap.size ≤ V90.heap.size := WW.size
                have hc := verify_any _ _ _ _ V90 (cv_other (c := c) (d := d) (cr := cr) WW HK.out hk2 hk1k (HN0.out.up WW) (HB0.out.up WW) hna' hba' HTT.out HRN)
                rw [HVO.out] at hc
                refine hc.mono ?_
                clear hc
                rintro e V12 ⟨rfl, hb⟩
                clear kXC0 kXC1 kXC2 zXC kOT0 kOT1 kOT2 zOT kON0 kON1 kON2 zON
                replace O30 := O30.below hb (Nat.le_refl _)
                replace XC := XC.below hb XC.lt
                replace OT := OT.below hb OT.lt
                replace ON := ON.below hb ON.lt
                replace HRN := HRN.below hb
                replace WW := WW.trans (hb.mono WW.size)
                have kXC0 : V12.cell? ⟨w.heap.size, 0, none⟩ = some (.slice A (nw a) c) := (XC.cell 0).trans rfl
                have kXC1 : V12.cell? ⟨w.heap.size, 1, none⟩ = some (.slice A' (nw b) d) := (XC.cell 1).trans rfl
                have kXC2 : V12.cell? ⟨w.heap.size, 2, none⟩ = some (.slice (some ad) k ex) := (XC.cell 2).trans rfl
                have zXC := XC.lt
                have kOT0 : V12.cell? ⟨wr.heap.size, 0, none⟩ = some (.slice A (nw a) c) := (OT.cell 0).trans rfl
                have kOT1 : V12.cell? ⟨wr.heap.size, 1, none⟩ = some (.slice A' (nw b) d) := (OT.cell 1).trans rfl
                have kOT2 : V12.cell? ⟨wr.heap.size, 2, none⟩ = some (.slice PR (k1 + (k - (k1 + 1))) cr) := (OT.cell 2).trans rfl
                have zOT := OT.lt
                have kON0 : V12.cell? ⟨V9.heap.size, 0, none⟩ = some (.slice A (nw a) c) := (ON.cell 0).trans rfl
                have kON1 : V12.cell? ⟨V9.heap.size, 1, none⟩ = some (.slice D30 (nw 1) d30) := (ON.cell 1).trans rfl
                have kON2 : V12.cell? ⟨V9.heap.size, 2, none⟩ = some (.slice (some ad) k ex) := (ON.cell 2).trans rfl
                have zON := ON.lt
                clear hb hbs
                go_wp2_with fail
                have hbs : w.heap.size ≤ V12.heap.size := WW.size
                have hc := verify_any _ _ _ _ V12 (cv_one (d1 := d30) HV.out WW O30.num)
                rw [HV1.out] at hc
                refine hc.mono ?_
                clear hc
                rintro e V13 ⟨rfl, hb⟩
                clear kXC0 kXC1 kXC2 zXC kOT0 kOT1 kOT2 zOT kON0 kON1 kON2 zON
                replace O30 := O30.below hb (Nat.le_refl _)
                replace XC := XC.below hb XC.lt
                replace OT := OT.below hb OT.lt
                replace ON := ON.below hb ON.lt
                replace HRN := HRN.below hb
                replace WW := WW.trans (hb.mono WW.size)
                have kXC0 : V13.cell? ⟨w.heap.size, 0, none⟩ = some (.slice A (nw a) c) := (XC.cell 0).trans rfl
                have kXC1 : V13.cell? ⟨w.heap.size, 1, none⟩ = some (.slice A' (nw b) d) := (XC.cell 1).trans rfl
                have kXC2 : V13.cell? ⟨w.heap.size, 2, none⟩ = some (.slice (some ad) k ex) := (XC.cell 2).trans rfl
                have zXC := XC.lt
                have kOT0 : V13.cell? ⟨wr.heap.size, 0, none⟩ = some (.slice A (nw a) c) := (OT.cell 0).trans rfl
                have kOT1 : V13.cell? ⟨wr.heap.size, 1, none⟩ = some (.slice A' (nw b) d) := (OT.cell 1).trans rfl
                have kOT2 : V13.cell? ⟨wr.heap.size, 2, none⟩ = some (.slice PR (k1 + (k - (k1 + 1))) cr) := (OT.cell 2).trans rfl
                have zOT := OT.lt
                have kON0 : V13.cell? ⟨V9.heap.size, 0, none⟩ = some (.slice A (nw a) c) := (ON.cell 0).trans rfl
                have kON1 : V13.cell? ⟨V9.heap.size, 1, none⟩ = some (.slice D30 (nw 1) d30) := (ON.cell 1).trans rfl
                have kON2 : V13.cell? ⟨V9.heap.size, 2, none⟩ = some (.slice (some ad) k ex) := (ON.cell 2).trans rfl
                have zON := ON.lt
                clear hb hbs
                go_wp2_with fail
                go_ret
                exact ⟨rfl, WW⟩

end Go.Proofs.YtomkmkjkeihodaaDoor
