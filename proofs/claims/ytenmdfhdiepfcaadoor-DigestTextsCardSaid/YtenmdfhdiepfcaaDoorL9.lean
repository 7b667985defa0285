/- digest.Hex. -/
import Derived.Test.YtenmdfhdiepfcaaDoorL8
import Derived.Test.YtenmdfhdiepfcaaDoorPhase
import Derived.StillTailTactics
set_option linter.unusedVariables false
set_option linter.unusedSimpArgs false
namespace Go.Proofs.YtenmdfhdiepfcaaDoor
open Go Go.RowKit
/-- The character of a digit. -/
def sym (d : Nat) : Nat := if d < 10 then 48 + d else 87 + d
theorem sym_le (d : Nat) (h : d ≤ 15) : sym d ≤ 255 := by unfold sym; split <;> omega
/-- A string of these bytes. -/
def strN (l : List Nat) : ByteArray := strOfNums (l.map fun d => ((d : Nat) : Int))
theorem index_sym (y : Nat) (hy : y ≤ 15) (w : World) : (Instr.index 9 (.string { data := #[48, 49, 50, 51, 52, 53, 54, 55, 56, 57, 97, 98, 99, 100, 101, 102] }) (.int .u8 ((y : Nat) : Int))).run Tryd.prog w = .ok (.int .u8 ((sym y : Nat) : Int)) w := by
  rw [run_index_string w 9 _ .u8 _ Tryd.underlying9]
  obtain rfl | rfl | rfl | rfl | rfl | rfl | rfl | rfl | rfl | rfl | rfl | rfl | rfl | rfl | rfl | rfl : y = 0 ∨ y = 1 ∨ y = 2 ∨ y = 3 ∨ y = 4 ∨ y = 5 ∨ y = 6 ∨ y = 7 ∨ y = 8 ∨ y = 9 ∨ y = 10 ∨ y = 11 ∨ y = 12 ∨ y = 13 ∨ y = 14 ∨ y = 15 := by omega
  all_goals rfl
section
variable {w : World} {base n c : Nat} {A : Option Addr} {l : List Nat}
theorem OB.str (h : OB w base (.slice A n c) l) : (convert 22 9 (.slice A n c)).run Tryd.prog w = .ok (.string (strN l)) w := by
  rcases h.blk with ⟨h1, h2⟩ | ⟨g, c', cur, h1, _⟩
  · injection h1 with e1 e2 e3
    subst h2 e1 e2 e3
    exact run_convert_bytes_nil (P := Tryd.prog) w 22 5 Tryd.underlying22 Tryd.underlying5 0 0 9 Tryd.underlying9
  · injection h1 with e1 e2 e3
    subst e1 e2 e3
    refine run_convert_bytes_arg (P := Tryd.prog) w 22 5 Tryd.underlying22 Tryd.underlying5 g 0 l.length c (l.map fun d => ((d : Nat) : Int)) (by simp) (fun i hi => ?_) 9 Tryd.underlying9
    obtain ⟨g', e, _, hc, _⟩ := h.cell hi
    injection e with e
    injection e with e
    subst e
    rw [Nat.zero_add, hc, List.getD_eq_getElem?_getD, List.getElem?_map, List.getElem?_eq_getElem hi]
    rfl
end
theorem index_25 (cs : Array Value) (k x : Nat) (w : World) (hk : k < 32) (h : cs[k]? = some (.int .u8 ((x : Nat) : Int))) : (Instr.index 25 (.agg cs) (.int .i64 ((k : Nat) : Int))).run Tryd.prog w = .ok (.int .u8 ((x : Nat) : Int)) w := by
  have h1 : ((k : Nat) : Int) < 32 := by omega
  simp [Instr.index, run_underlying Tryd.underlying25, asIntOf, go_sem, part, Tryd.sizeOf5, Tryd.isAgg5, h, h1]
  omega
def oq23_5_0 : Oper := { dst := some 10, op := Op.move (Operand.tmp 3), type := 22, pos := "digest.go:69", after := #[], guard := none }
def oq23_5_1 : Oper := { dst := some 11, op := Op.move (Operand.tmp 5), type := 5, pos := "digest.go:69", after := #[], guard := none }
def oq23_5_2 : Oper := { dst := some 12, op := Op.binOp BinOp.shr 5 (Operand.tmp 11) (Operand.const (Value.int IntKind.u64 4)) 53, type := 5, pos := "digest.go:69", after := #[{ on := 1, ground := Ground.data }], guard := none }
def oq23_5_3 : Oper := { dst := some 13, op := Op.index 9 (Operand.const (Value.string { data := #[48, 49, 50, 51, 52, 53, 54, 55, 56, 57, 97, 98, 99, 100, 101, 102] })) (Operand.tmp 12), type := 5, pos := "digest.go:69", after := #[{ on := 2, ground := Ground.data }], guard := none }
def oq23_5_4 : Oper := { dst := some 14, op := Op.move (Operand.tmp 5), type := 5, pos := "digest.go:69", after := #[], guard := none }
def oq23_5_5 : Oper := { dst := some 15, op := Op.binOp BinOp.and 5 (Operand.tmp 14) (Operand.const (Value.int IntKind.u8 15)) 5, type := 5, pos := "digest.go:69", after := #[{ on := 4, ground := Ground.data }], guard := none }
def oq23_5_6 : Oper := { dst := some 16, op := Op.index 9 (Operand.const (Value.string { data := #[48, 49, 50, 51, 52, 53, 54, 55, 56, 57, 97, 98, 99, 100, 101, 102] })) (Operand.tmp 15), type := 5, pos := "digest.go:69", after := #[{ on := 5, ground := Ground.data }], guard := none }
def oq23_5_7 : Oper := { dst := some 17, op := Op.buildSlice 22 2 #[(0, Operand.tmp 13), (1, Operand.tmp 16)], type := 22, pos := "digest.go:69", after := #[{ on := 3, ground := Ground.data }, { on := 6, ground := Ground.data }], guard := none }
def oq23_5_8 : Oper := { dst := some 18, op := Op.call { callee := Callee.builtin Builtin.append, args := #[Operand.tmp 10, Operand.tmp 17], argTypes := #[22, 22] }, type := 22, pos := "digest.go:69", after := #[{ on := 0, ground := Ground.data }, { on := 7, ground := Ground.data }], guard := none }
def oq23_5_9 : Oper := { dst := some 3, op := Op.assign (Operand.tmp 18), type := 22, pos := "digest.go:69", after := #[{ on := 8, ground := Ground.data }, { on := 8, ground := Ground.chain }, { on := 0, ground := Ground.phase }, { on := 1, ground := Ground.phase }, { on := 2, ground := Ground.phase }, { on := 3, ground := Ground.phase }, { on := 4, ground := Ground.phase }, { on := 5, ground := Ground.phase }, { on := 6, ground := Ground.phase }, { on := 7, ground := Ground.phase }, { on := 8, ground := Ground.phase }], guard := none }
def hexL (l : List Nat) : List Nat := l.flatMap fun x => [sym (x / 16), sym (x % 16)]
theorem wp_app2 {ops : Array Oper} {rest : List Oper} {o : Oper} {a : Act} {Q : Exit → Act → World → Prop} (hgd : o.guard = none) (s x : Operand)
    (ho : o.op = .call { callee := .builtin .append, args := #[s, x], argTypes := #[22, 22] }) (base : Nat) (V : World) (v : Value) (l : List Nat) (y z : Nat) (hs : a.eval s = v) (hO : OB V base v l)
    (hx : a.eval x = .slice (some ⟨V.heap.size, 0, none⟩) 2 2) (hk : l.length ≤ 1000000) (hb : base ≤ V.heap.size)
    (h : ∀ v' w', OB w' base v' (l ++ [y, z]) → V.grownBy w' v.ownBlock → wpList Tryd.prog ops Q rest (a.put o.dst v') w') :
    wpList Tryd.prog ops Q (o :: rest) a (V.alloc (.cells #[.int .u8 ((y : Nat) : Int), .int .u8 ((z : Nat) : Int)] 5)) := by
  obtain ⟨i0, hi0, hz0, hz1, hz2⟩ := info_parts info5
  refine wpList_append_own_at _ hgd s x 22 ho base 5 i0 (.int .u8 0) 1 1 Tryd.underlying22 hi0 hz0 hz1 hz2 rfl (by decide) v l.length (l.map byt) hs (hO.alloc _) ⟨V.heap.size, 0, none⟩ 2 2 [byt y, byt z] hx rfl ?_ (byt_one [y, z]) (by unfold maxLen; omega) (by omega) (by simp; omega) ?_
  · intro j u hu
    have hB := Blk.new V 5 #[byt y, byt z]
    match j with
    | 0 => injection hu with hu; subst hu; exact (hB.cell 0).trans rfl
    | 1 => injection hu with hu; subst hu; exact (hB.cell 1).trans rfl
    | j + 2 => cases hu
  intro v' w' hown hg _ _
  refine h v' w' ?_ ?_
  · unfold OB; rw [List.length_append, List.map_append]; exact hown
  · refine ⟨hg.os, hg.tape, hg.output, Nat.le_trans (by simp) hg.size, fun k hk hne => ?_⟩
    exact (hg.block k (by simp; omega) hne).trans (Below.heap_alloc V _ k hk)
theorem op_append {o : Oper} {a : Act} {w w' : World} {K : Act → World → Prop} {Q : Exit → Act → World → Prop} {X : Prop} {ops : Array Oper} {v1 v2 v' : Value} (hgd : o.guard = none) (s x : Operand)
    (ho : o.op = .call { callee := .builtin .append, args := #[s, x], argTypes := #[22, 22] }) (ht : o.type = 22) (hs : a.eval s = v1) (hx : a.eval x = v2) (hr : (Builtin.append_ #[22, 22] 22 #[v1, v2]).run Tryd.prog w = .ok v' w')
    (h : K (a.put o.dst v') w') : (if Region.wanted o (yielded ops a.tmps) = true then Oper.wp Tryd.prog o a w K Q else X) := by
  simp only [Region.wanted, hgd, if_true]
  unfold Oper.wp execOp
  simp only [ho, resolve, invoke, builtin, Sem.run_bind, Sem.run_pure, Result.andThen_ok, List.map_toArray, List.map_cons, List.map_nil, hs, hx, ht, hr]
  exact h
theorem run_app2 (base : Nat) (V : World) (v : Value) (l : List Nat) (y z : Nat) (hO : OB V base v l) (hk : l.length ≤ 1000000) (hb : base ≤ V.heap.size) :
    ∃ v' w', (Builtin.append_ #[22, 22] 22 #[v, .slice (some ⟨V.heap.size, 0, none⟩) 2 2]).run Tryd.prog (V.alloc (.cells #[.int .u8 ((y : Nat) : Int), .int .u8 ((z : Nat) : Int)] 5)) = .ok v' w' ∧ OB w' base v' (l ++ [y, z]) ∧ V.grownBy w' v.ownBlock := by
  obtain ⟨i0, hi0, hz0, hz1, hz2⟩ := info_parts info5
  obtain ⟨v', w', hr, hown, hg, _, _⟩ := run_append_own_at (P := Tryd.prog) (V.alloc (.cells #[.int .u8 ((y : Nat) : Int), .int .u8 ((z : Nat) : Int)] 5)) base 22 22 5 i0 (.int .u8 0) 1 1 Tryd.underlying22 hi0 hz0 hz1 hz2 rfl (by decide) v l.length (l.map byt) (hO.alloc _) ⟨V.heap.size, 0, none⟩ 2 2 [byt y, byt z] rfl (fun j u hu => by
    have hB := Blk.new V 5 #[byt y, byt z]
    match j with
    | 0 => injection hu with hu; subst hu; exact (hB.cell 0).trans rfl
    | 1 => injection hu with hu; subst hu; exact (hB.cell 1).trans rfl
    | j + 2 => cases hu) (byt_one [y, z]) (by unfold maxLen; omega) (by omega) (by simp; omega)
  refine ⟨v', w', hr, ?_, hg.os, hg.tape, hg.output, Nat.le_trans (by simp) hg.size, fun k hk hne => (hg.block k (by simp; omega) hne).trans (Below.heap_alloc V _ k hk)⟩
  unfold OB; rw [List.length_append, List.map_append]; exact hown
theorem hexL_snoc (l : List Nat) {k : Nat} (h : k < l.length) : hexL (l.take k) ++ [sym (l.getD k 0 / 16), sym (l.getD k 0 % 16)] = hexL (l.take (k + 1)) := by
  unfold hexL
  rw [List.take_add_one, List.flatMap_append, List.getElem?_eq_getElem h, List.getD_eq_getElem?_getD, List.getElem?_eq_getElem h]
  simp
theorem hexL_len (l : List Nat) : (hexL l).length = 2 * l.length := by
  unfold hexL
  induction l with
  | nil => rfl
  | cons x l ih => simp [List.flatMap_cons, ih]; omega
theorem and15 : ∀ n : Fin 256, bits BinOp.and IntKind.u8 (n.val : Int) 15 = ((n.val % 16 : Nat) : Int) := by decide +kernel
set_option maxRecDepth 100000 in
set_option maxHeartbeats 4000000 in
theorem hex_any (l : List Nat) (w : World) (hl : l.length = 32) (h8 : ∀ i, l.getD i 0 < 256) :
    Calls Tryd.prog 23 #[hv l] w (fun e w' => e = .returned (.string (strN (hexL l))) ∧ Below w.heap.size w w') := by
  obtain ⟨cs, hcs⟩ : ∃ cs, cs = brow l := ⟨_, rfl⟩
  have hv1 : hv l = .agg cs := by rw [hcs]; rfl
  rw [hv1]
  have HCS := hid hcs
  have HL := hid hl
  have H8 := hid h8
  have hsz : cs.size = 32 := by rw [hcs, brow_size, hl]
  have b1 := Blk.new w 25 cs
  have WW := (Below.refl w.heap.size w).alloc (Nat.le_refl _) (.cells cs 25)
  clear hcs hv1 hl h8
  go_enter Tryd.func23, Tryd.ntmps23
  refine wp_seq_k (fun K1 hK1 => ?_)
  have HK1 := hid hK1
  clear hK1
  go_wp2_with fail
  refine HK1.out _ _ ?_
  clear HK1
  generalize hV : w.alloc (.cells cs 25) = V0 at b1 WW ⊢
  clear hV
  refine wp_seq_k (fun K2 hK2 => ?_)
  have HK2 := hid hK2
  clear hK2
  go_wp2_with fail
  refine HK2.out _ _ ?_
  clear HK2
  refine wp_seq_k (fun K3 hK3 => ?_)
  refine wp_seq_k (fun K4 hK4 => ?_)
  refine wp_region_lit ?_
  refine wpList_load_row rfl 25 (.tmp 1) rfl w.heap.size rfl 25 cs (0, 0) _ b1 Tryd.underlying25 rfl (by rw [hsz]; kernel_rfl) ?_
  go_wp2_with fail
  go_loopw [3, 7] (fun v i wr => ∃ k : Nat, k ≤ 32 ∧ i = .int .i64 ((k : Nat) : Int) ∧ Below w.heap.size w wr ∧ OB wr w.heap.size v (hexL (l.take k))) (fun v i wr => 32 - (intOf i).toNat)
  case atStart => exact ⟨0, by omega, rfl, WW, OB.nil _ _⟩
  case round =>
    clear WW b1
    obtain ⟨k, hk, rfl, WW, OO⟩ := hrel
    by_cases hlt : k < 32
    · have hix : ∀ w', (Instr.index 25 (.agg cs) (.int .i64 ((k : Nat) : Int))).run Tryd.prog w' = .ok (.int .u8 ((l.getD k 0 : Nat) : Int)) w' := fun w' => index_25 cs k _ w' hlt (by rw [HCS.out]; exact brow_at (by rw [HL.out]; exact hlt))
      have hx8 := H8.out k
      have HX : Hid (_ = _) := hexL_snoc l (k := k) (by rw [HL.out]; exact hlt)
      have HLL : Hid ((hexL (l.take k)).length ≤ 1000000) := (show _ ≤ _ by rw [hexL_len, List.length_take]; omega)
      generalize l.getD k 0 = x at hix HX hx8
      obtain ⟨y, hy⟩ : ∃ y, y = x / 16 := ⟨_, rfl⟩
      obtain ⟨z, hz⟩ : ∃ z, z = x % 16 := ⟨_, rfl⟩
      rw [← hy, ← hz] at HX
      have ey : ((x : Nat) : Int) / 16 = ((y : Nat) : Int) := by omega
      have eyw : IntKind.u8.wrap (((x : Nat) : Int) / 16) = ((y : Nat) : Int) := by rw [IntKind.wrap_u8]; omega
      have eyv : IntKind.u8.wrap ((y : Nat) : Int) = ((y : Nat) : Int) := by rw [IntKind.wrap_u8]; omega
      have ez : bits BinOp.and IntKind.u8 ((x : Nat) : Int) 15 = ((z : Nat) : Int) := by rw [hz]; exact and15 ⟨x, hx8⟩
      have i1 : ∀ w', (Instr.index 9 (.string { data := #[48, 49, 50, 51, 52, 53, 54, 55, 56, 57, 97, 98, 99, 100, 101, 102] }) (.int .u8 ((y : Nat) : Int))).run Tryd.prog w' = .ok (.int .u8 ((sym y : Nat) : Int)) w' := fun w' => index_sym y (by omega) w'
      have i2 : ∀ w', (Instr.index 9 (.string { data := #[48, 49, 50, 51, 52, 53, 54, 55, 56, 57, 97, 98, 99, 100, 101, 102] }) (.int .u8 ((z : Nat) : Int))).run Tryd.prog w' = .ok (.int .u8 ((sym z : Nat) : Int)) w' := fun w' => index_sym z (by omega) w'
      clear hy hz
      go_wp2_with fail
      have hsz : w.heap.size ≤ wr.drew.heap.size := WW.size
      replace WW := WW.drew
      replace OO : OB wr.drew w.heap.size u3 (hexL (l.take k)) := OO.drew
      generalize hV : wr.drew = V2 at WW OO hsz
      refine region_L 17 (fun _ => True) (by kernel_rfl) trivial (fun hHeld => ?_)
      rw [hV]
      refine AnyL_take (i := 0) (oi := oq23_5_0) (v := ?_) rfl (by kernel_rfl) (by kernel_rfl) (by kernel_rfl) (by kernel_rfl) (fun _ _ _ h => h) (Or.inl ⟨by rfl, ?_⟩) (by assumption) ?_
      rotate_left
      · (delta oq23_5_0; intro ws hSw; (try dsimp only at hSw); (try go_simp); (try with_reducible rfl))
      (try simp only [oq23_5_0, Act.put, List.setIfInBounds_toArray, List.set_cons_zero, List.set_cons_succ])
      refine AnyL_take (i := 1) (oi := oq23_5_1) (v := ?_) rfl (by kernel_rfl) (by kernel_rfl) (by kernel_rfl) (by kernel_rfl) (fun _ _ _ h => h) (Or.inl ⟨by rfl, ?_⟩) (by assumption) ?_
      rotate_left
      · (delta oq23_5_1; intro ws hSw; (try dsimp only at hSw); (try go_simp); (try with_reducible rfl))
      (try simp only [oq23_5_1, Act.put, List.setIfInBounds_toArray, List.set_cons_zero, List.set_cons_succ])
      refine AnyL_take (i := 2) (oi := oq23_5_2) (v := ?_) rfl (by kernel_rfl) (by kernel_rfl) (by kernel_rfl) (by kernel_rfl) (fun _ _ _ h => h) (Or.inl ⟨by rfl, ?_⟩) (by assumption) ?_
      rotate_left
      · (delta oq23_5_2; intro ws hSw; (try dsimp only at hSw); (try go_simp); (try with_reducible rfl))
      (try simp only [oq23_5_2, Act.put, List.setIfInBounds_toArray, List.set_cons_zero, List.set_cons_succ])
      refine AnyL_take (i := 3) (oi := oq23_5_3) (v := ?_) rfl (by kernel_rfl) (by kernel_rfl) (by kernel_rfl) (by kernel_rfl) (fun _ _ _ h => h) (Or.inl ⟨by rfl, ?_⟩) (by assumption) ?_
      rotate_left
      · (delta oq23_5_3; intro ws hSw; (try dsimp only at hSw); (try go_simp); (try with_reducible rfl))
      (try simp only [oq23_5_3, Act.put, List.setIfInBounds_toArray, List.set_cons_zero, List.set_cons_succ])
      refine AnyL_take (i := 4) (oi := oq23_5_4) (v := ?_) rfl (by kernel_rfl) (by kernel_rfl) (by kernel_rfl) (by kernel_rfl) (fun _ _ _ h => h) (Or.inl ⟨by rfl, ?_⟩) (by assumption) ?_
      rotate_left
      · (delta oq23_5_4; intro ws hSw; (try dsimp only at hSw); (try go_simp); (try with_reducible rfl))
      (try simp only [oq23_5_4, Act.put, List.setIfInBounds_toArray, List.set_cons_zero, List.set_cons_succ])
      refine AnyL_take (i := 5) (oi := oq23_5_5) (v := ?_) rfl (by kernel_rfl) (by kernel_rfl) (by kernel_rfl) (by kernel_rfl) (fun _ _ _ h => h) (Or.inl ⟨by rfl, ?_⟩) (by assumption) ?_
      rotate_left
      · (delta oq23_5_5; intro ws hSw; (try dsimp only at hSw); (try go_simp); (try with_reducible rfl))
      (try simp only [oq23_5_5, Act.put, List.setIfInBounds_toArray, List.set_cons_zero, List.set_cons_succ])
      refine AnyL_take (i := 6) (oi := oq23_5_6) (v := ?_) rfl (by kernel_rfl) (by kernel_rfl) (by kernel_rfl) (by kernel_rfl) (fun _ _ _ h => h) (Or.inl ⟨by rfl, ?_⟩) (by assumption) ?_
      rotate_left
      · (delta oq23_5_6; intro ws hSw; (try dsimp only at hSw); (try go_simp); (try with_reducible rfl))
      (try simp only [oq23_5_6, Act.put, List.setIfInBounds_toArray, List.set_cons_zero, List.set_cons_succ])
      refine AnyL_ready (rs := [7]) (by kernel_rfl) (by simp) ?_
      refine ReadyL.cons (o := oq23_5_7) rfl (fun K hK => ?_) ReadyL.nil
      delta oq23_5_7
      go_simp
      refine hK.out _ _ trivial (fun hHeld2 => ?_)
      clear hK K
      (try simp only [oq23_5_7, Act.put, List.setIfInBounds_toArray, List.set_cons_zero, List.set_cons_succ])
      refine AnyL_ready (rs := [8]) (by kernel_rfl) (by simp) ?_
      refine ReadyL.cons (o := oq23_5_8) rfl (fun K hK => ?_) ReadyL.nil
      delta oq23_5_8
      obtain ⟨v9, V9, hrun, ho9, hg9⟩ := run_app2 w.heap.size V2 u3 (hexL (l.take k)) (sym y) (sym z) OO HLL.out hsz
      refine op_append rfl (.tmp 10) (.tmp 17) rfl rfl rfl rfl hrun ?_
      refine hK.out _ _ trivial (fun hHeld3 => ?_)
      clear hK K hrun
      (try simp only [oq23_5_8, Act.put, List.setIfInBounds_toArray, List.set_cons_zero, List.set_cons_succ])
      refine AnyL_take (i := 9) (oi := oq23_5_9) (v := ?_) rfl (by kernel_rfl) (by kernel_rfl) (by kernel_rfl) (by kernel_rfl) (fun _ _ _ h => h) (Or.inl ⟨by rfl, ?_⟩) (by assumption) ?_
      rotate_left
      · (delta oq23_5_9; intro ws hSw; (try dsimp only at hSw); (try go_simp); (try with_reducible rfl))
      (try simp only [oq23_5_9, Act.put, List.setIfInBounds_toArray, List.set_cons_zero, List.set_cons_succ])
      refine AnyL_done (by kernel_rfl) ?_ _
      replace WW := OO.gbelow hg9 (Nat.le_refl _) hsz WW
      rw [HX.out] at ho9
      clear hHeld hHeld2 hHeld3 hg9 OO hV
      go_wp2_with fail
      go_roundw
      case rel => exact ⟨k + 1, by omega, rfl, WW, ho9⟩
      case measure => simp [intOf] <;> omega
    · rw [show k = 32 from by omega, List.take_of_length_le (by rw [HL.out]; exact Nat.le_refl _)] at OO
      obtain ⟨A6, c6, e6⟩ := OO.slc
      subst e6
      have hst := OO.str
      go_wp2_with fail
      go_ret
      exact ⟨rfl, WW⟩
end Go.Proofs.YtenmdfhdiepfcaaDoor
