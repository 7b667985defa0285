/- digest.Sum of nil. -/
import Derived.Test.YtenmdfhdiepfcaaDoorL7
set_option linter.unusedVariables false
set_option linter.unusedSimpArgs false
namespace Go.Proofs.YtenmdfhdiepfcaaDoor
open Go Go.RowKit
attribute [local go_sem] Oper.semAt_some
set_option maxRecDepth 100000 in
set_option maxHeartbeats 4000000 in
theorem sum_nil (w : World) (hT : Tabs w) :
    Calls Tryd.prog 12 #[.slice none 0 0] w (fun e w' => e = .returned (hv (sha [])) ∧ Below w.heap.size w w') := by
  have hz := (zero_of_info info25).1
  rw [brow_zero] at hz
  replace hz : ∀ w, (zeroValue 25).run Tryd.prog w = .ok (.agg b32) w := hz
  have g0 : w.cell? ⟨0, 0, none⟩ = some (.int .u32 1779033703) := hT.s 0 (by omega)
  have g1 : w.cell? ⟨0, 1, none⟩ = some (.int .u32 3144134277) := hT.s 1 (by omega)
  have g2 : w.cell? ⟨0, 2, none⟩ = some (.int .u32 1013904242) := hT.s 2 (by omega)
  have g3 : w.cell? ⟨0, 3, none⟩ = some (.int .u32 2773480762) := hT.s 3 (by omega)
  have g4 : w.cell? ⟨0, 4, none⟩ = some (.int .u32 1359893119) := hT.s 4 (by omega)
  have g5 : w.cell? ⟨0, 5, none⟩ = some (.int .u32 2600822924) := hT.s 5 (by omega)
  have g6 : w.cell? ⟨0, 6, none⟩ = some (.int .u32 528734635) := hT.s 6 (by omega)
  have g7 : w.cell? ⟨0, 7, none⟩ = some (.int .u32 1541459225) := hT.s 7 (by omega)
  have hw1 : 1 < w.heap.size := hT.big
  have hw0 : 0 < w.heap.size := by omega
  have HT := hid hT
  clear hT
  refine callsIn_wide (n := 5) |>.1 ?_
  refine callsIn_of_wp_marks Tryd.func12 rfl trivial ?_ rfl
  simp only [Tryd.ntmps12, List.size_toArray, List.length_cons, List.length_nil, Nat.reduceAdd, Nat.reduceSub, Array.replicate_succ, Array.replicate_zero, List.push_toArray, List.append_toArray, List.nil_append, List.cons_append]
  gi_wp2_with (refine ⟨trivial, ?_⟩; gi_at_call 32; refine (callsIn_wide.2 (chunk_any64 none _ 0 _)).mono ?_; rintro e w' ⟨rfl, rfl⟩)
  (try simp only [World.size_alloc])
  have q0 := Blk.new w 25 b32
  have q1 := Blk.new (w.alloc (.cells b32 25)) 60 (stW (stO start))
  have q4 := Blk.new ((w.alloc (.cells b32 25)).alloc (.cells (stW (stO start)) 60)) 22 #[.slice none 0 0]
  have q5 := Blk.new (((w.alloc (.cells b32 25)).alloc (.cells (stW (stO start)) 60)).alloc (.cells #[.slice none 0 0] 22)) 3 #[.int .i64 64]
  have WW := ((((Below.refl _ w).alloc (Nat.le_refl _) (.cells b32 25)).alloc (by simp) (.cells (stW (stO start)) 60)).alloc (by simp; omega) (.cells #[.slice none 0 0] 22)).alloc (by simp; omega) (.cells #[.int .i64 64] 3)
  replace q0 := ((q0.alloc (.cells (stW (stO start)) 60)).alloc (.cells #[.slice none 0 0] 22)).alloc (.cells #[.int .i64 64] 3)
  replace q1 := (q1.alloc (.cells #[.slice none 0 0] 22)).alloc (.cells #[.int .i64 64] 3)
  replace q4 := q4.alloc (.cells #[.int .i64 64] 3)
  have hz : ((((w.alloc (.cells b32 25)).alloc (.cells (stW (stO start)) 60)).alloc (.cells #[.slice none 0 0] 22)).alloc (.cells #[.int .i64 64] 3)).heap.size = w.heap.size + 1 + 1 + 1 + 1 := by simp
  simp only [World.size_alloc] at q0 q1 q4 q5
  obtain ⟨V0, hV⟩ : ∃ V0, V0 = (((w.alloc (.cells b32 25)).alloc (.cells (stW (stO start)) 60)).alloc (.cells #[.slice none 0 0] 22)).alloc (.cells #[.int .i64 64] 3) := ⟨_, rfl⟩
  rw [← hV] at q0 q1 q4 q5 WW hz
  change Code.wpIn _ _ _ _ _ _ ((((w.alloc (.cells b32 25)).alloc (.cells (stW (stO start)) 60)).alloc (.cells #[.slice none 0 0] 22)).alloc (.cells #[.int .i64 64] 3))
  rw [← hV]
  clear hV
  have HZ := hid hz
  have hsz : w.heap.size + 1 + 1 + 1 < V0.heap.size := by omega
  clear hz g0 g1 g2 g3 g4 g5 g6 g7
  obtain ⟨ad0, _⟩ : ∃ ad : Addr, True := ⟨⟨0, 0, none⟩, trivial⟩
  refine wpIn_rangeFunc_ownG rfl (by decide) (gf := 55) (lb := #[.pointer (some ⟨w.heap.size + 1 + 1, 0, none⟩), .pointer (some ⟨w.heap.size + 1 + 1 + 1, 0, none⟩)]) rfl trivial (enters_of Tryd.func55 (by kernel_rfl) rfl)
    (chunk_stops64 4 (w.heap.size + 1 + 1) (w.heap.size + 1 + 1 + 1) none ad0 0 0 0 rfl (by omega) (Nat.le_refl _) (by omega) (fun h => absurd h (by omega)) V0 (by omega) hsz q4.cell0 q5.cell0) (fun h k => h.trans k) (fun W l o o' hl _ _ _ => Kp2.putObj W o' (by omega) (by omega)) (Below.refl _ _) (fun _ => rfl)
    (fun pre W => NI w (stO start) [] 0 pre W ∧ w.heap.size + 1 + 1 + 1 < W.heap.size) (fun c' pre W => NX c' pre W) (fun s W W' row h hg hr => ⟨NI_own w (stO start) [] 0 (by omega) s W W' row h.1 hg hr, Nat.lt_of_lt_of_le h.2 hg.size⟩) (fun c' => NX_own c')
    ⟨⟨WW, q0, q1⟩, hsz⟩
    (fun x => { tmps := #[.slice none 0 0, undef, .pointer (some ⟨w.heap.size, 0, none⟩), .pointer (some ⟨w.heap.size + 1, 0, none⟩), .int .i64 0, (.slice (some (ad0.add (64 * cl 0 x))) 64 64), undef, .agg #[.int .u32 1779033703, .int .u32 3144134277, .int .u32 1013904242, .int .u32 2773480762, .int .u32 1359893119, .int .u32 2600822924, .int .u32 528734635, .int .u32 1541459225], .slice none 0 0, .int .i64 0, .slice none 0 0, .int .i64 0, .int .i64 0, .int .i64 0, .slice none 0 0, .int .i64 0, .slice none 0 0, .func (.func 55) #[] #[.pointer (some ⟨w.heap.size + 1 + 1, 0, none⟩), .pointer (some ⟨w.heap.size + 1 + 1 + 1, 0, none⟩)], (.slice (some (ad0.add (64 * cl 0 x))) 64 64), undef, undef, undef, undef, undef, undef, undef, undef, undef, undef, undef, undef, undef, undef, undef, undef], defers := [] }) ?assign ?body ?done ?stop
  case assign =>
    intro l x W K hK
    gi_wp2
    exact hK
  case body =>
    rintro lp pre x W _ hlen
    exact absurd hlen (by omega)
  case done =>
    rintro D ys W hD rfl ⟨⟨h1, b0, b1⟩, hbig⟩ hK
    rw [foldA_range _ _ _ 0 (Nat.le_refl _)] at b1
    obtain ⟨s1, hs1⟩ : ∃ s, s = absAll (stO start) [] 0 := ⟨_, rfl⟩
    have hok1 : s1.ok := by rw [hs1, ← foldA_range _ _ 0 0 (Nat.le_refl _)]; exact foldA_ok start_ok _ _ _
    rw [← hs1] at b1
    have HS1 := hid hs1
    clear hs1
    have hBN2 : BN W W.heap.size none [] := fun i hi => by cases hi
    have hc2 := padded_any none 0 [] 0 0 W (fun _ => ⟨rfl, rfl⟩) hBN2 rfl (by omega) (by omega)
    obtain ⟨P, hP⟩ : ∃ P, P = padL [] 0 := ⟨_, rfl⟩
    obtain ⟨N, hN⟩ : ∃ N, N = P.length := ⟨_, rfl⟩
    have hN64 : N = 64 * (N / 64) ∧ N ≤ 1000 ∧ 64 ≤ N := by
      rw [hN, hP]
      decide
    rw [← hP] at hc2
    have HN64 := hid hN64
    have hN1 : N ≤ 1000 := hN64.2.1
    have hN0 : 64 ≤ N := hN64.2.2
    clear hN64
    have HP := hid hP
    have HN := hid hN
    have hP8 : ∀ x ∈ P, x ≤ 255 := by
      rw [hP]
      decide
    have HC2 := hid hc2
    clear hc2 hP hN hBN2
    have hDW := (Array.getElem?_eq_some_iff.1 hK).1
    have HP8 := hid hP8
    clear hP8
    gi_wp2_with (refine ⟨trivial, ?_⟩; gi_at_call 34; refine (callsIn_wide.2 HC2.out).mono ?_; rintro e W2 ⟨v2, rfl, O2, hb2⟩)
    obtain ⟨A3, c3, e3⟩ := O2.slc
    rw [← HN.out] at e3
    subst e3
    obtain ⟨ad3, rfl, _⟩ := O2.src (by rw [← HN.out]; omega)
    obtain ⟨gg, eg, hge, _, _⟩ := O2.cell (i := 0) (by rw [← HN.out]; omega)
    have had3 : W.heap.size ≤ ad3.block := by injection eg with eg; rw [eg]; exact hge
    have had4 : ad3.block < W2.heap.size := by
      obtain ⟨ad', e, h, _⟩ := (O2.bn HP8.out) 0 (by rw [← HN.out]; omega)
      injection e with e
      rw [e]; exact h
    clear eg hge
    have hB3 := O2.bn HP8.out
    have hc3 := O2.cap
    rw [← HN.out] at hc3
    refine ⟨trivial, ?_⟩
    refine (callsIn_wide.2 (chunk_any64 (some ad3) _ c3 _)).mono ?_
    rintro e w' ⟨rfl, rfl⟩
    gi_wp2
    have hbig2 : w.heap.size + 1 + 1 + 1 < W2.heap.size := Nat.lt_of_lt_of_le hbig hb2.size
    have r4 := (Blk.new W2 22 #[.slice (some ad3) N c3]).alloc (.cells #[.int .i64 64] 3)
    have r5 := Blk.new (W2.alloc (.cells #[.slice (some ad3) N c3] 22)) 3 #[.int .i64 64]
    rw [World.size_alloc] at r5
    have d0 := ((b0.below hb2 b0.lt).alloc (.cells #[.slice (some ad3) N c3] 22)).alloc (.cells #[.int .i64 64] 3)
    have d1 := ((b1.below hb2 b1.lt).alloc (.cells #[.slice (some ad3) N c3] 22)).alloc (.cells #[.int .i64 64] 3)
    have hb3 := (hb2.alloc hb2.size (.cells #[.slice (some ad3) N c3] 22)).alloc (Nat.le_trans hb2.size (by simp)) (.cells #[.int .i64 64] 3)
    have hz3 : ((W2.alloc (.cells #[.slice (some ad3) N c3] 22)).alloc (.cells #[.int .i64 64] 3)).heap.size = W2.heap.size + 1 + 1 := by simp
    have hB4 : BN ((W2.alloc (.cells #[.slice (some ad3) N c3] 22)).alloc (.cells #[.int .i64 64] 3)) W2.heap.size (some ad3) P := hB3.below (((Below.refl W2.heap.size W2).alloc (Nat.le_refl _) _).alloc (by simp) _)
    obtain ⟨V3, hV⟩ : ∃ V3, V3 = (W2.alloc (.cells #[.slice (some ad3) N c3] 22)).alloc (.cells #[.int .i64 64] 3) := ⟨_, rfl⟩
    rw [← hV] at r4 r5 d0 d1 hb3 hz3 hB4 ⊢
    clear hV
    have hK3 : V3.heap[D]? = some (.deferred (some [])) := (hb3.block D hDW).trans hK
    have H1 := h1.trans (hb3.mono h1.size)
    have HZ3 := hid hz3
    have hsz3 : W2.heap.size + 1 < V3.heap.size := by omega
    clear hz3
    refine wpIn_rangeFunc_ownG rfl (by decide) (gf := 55) (lb := #[.pointer (some ⟨W2.heap.size, 0, none⟩), .pointer (some ⟨W2.heap.size + 1, 0, none⟩)]) rfl trivial (enters_of Tryd.func55 (by kernel_rfl) rfl)
      (chunk_stops64 4 (W2.heap.size) (W2.heap.size + 1) (some ad3) ad3 N (N / 64) c3 HN64.out.1 (by omega) hc3.1 hc3.2 (fun _ => rfl) V3 (by omega) hsz3 r4.cell0 r5.cell0) (fun h k => h.trans k) (fun W l o o' hl _ _ _ => Kp2.putObj W o' (by omega) (by omega)) (Below.refl _ _) (fun _ => rfl)
      (fun pre W => NJ w D s1 P (N / 64) pre W ∧ W.heap[ad3.block]? = V3.heap[ad3.block]? ∧ V3.heap.size ≤ W.heap.size) (fun c' pre W => NX c' pre W) (fun s W W' row h hg hr => ⟨NJ_own w D s1 P (N / 64) (by omega) (by omega) s W W' row h.1 hg hr, (hg.block ad3.block (by omega) (fun e => by have := (hr _ e.symm).1; omega)).trans h.2.1, Nat.le_trans h.2.2 hg.size⟩) (fun c' => NX_own c')
      ⟨⟨⟨H1, d0, d1⟩, hK3⟩, rfl, Nat.le_refl _⟩
      (fun x => { tmps := #[.slice none 0 0, undef, .pointer (some ⟨w.heap.size, 0, none⟩), .pointer (some ⟨w.heap.size + 1, 0, none⟩), .int .i64 0, undef, (.slice (some (ad3.add (64 * cl (N / 64) x))) 64 64), .agg #[.int .u32 1779033703, .int .u32 3144134277, .int .u32 1013904242, .int .u32 2773480762, .int .u32 1359893119, .int .u32 2600822924, .int .u32 528734635, .int .u32 1541459225], .slice none 0 0, .int .i64 0, .slice none 0 0, .int .i64 0, .int .i64 0, .int .i64 0, .slice none 0 0, .int .i64 0, .slice none 0 0, .func (.func 55) #[] #[.pointer (some ⟨w.heap.size + 1 + 1, 0, none⟩), .pointer (some ⟨w.heap.size + 1 + 1 + 1, 0, none⟩)], undef, undef, undef, undef, .slice none 0 0, .int .i64 0, .slice none 0 0, .slice none 0 0, .int .i64 0, .slice (some ad3) N c3, .func (.func 55) #[] #[.pointer (some ⟨W2.heap.size, 0, none⟩), .pointer (some ⟨W2.heap.size + 1, 0, none⟩)], (.slice (some (ad3.add (64 * cl (N / 64) x))) 64 64), undef, undef, undef, undef, undef], defers := [] }) ?assign2 ?body2 ?done2 ?stop2
    case assign2 =>
      intro l x W K hK
      gi_wp2
      exact hK
    case body2 =>
      rintro lp pre x U ⟨⟨⟨e1, c0, c1⟩, hKU⟩, hsame, hUs⟩ hlen
      have hT := HT.out.below' hw1 e1
      have hBN : BN U U.heap.size (some (ad3.add (64 * cl (N / 64) x))) (ch64 P (cl (N / 64) x)) := by
        have hBU : BN U U.heap.size (some ad3) P := fun i hi => by
          obtain ⟨ad, e, g1, g2, g3⟩ := hB4 i hi
          injection e with e
          subst e
          exact ⟨ad3, rfl, by omega, (World.cell?_of_block (a := ad3.add i) (by rw [block_of_add]; exact hsame)).trans g2, g3⟩
        exact hBU.piece64 _
      have hlc : (ch64 P (cl (N / 64) x)).length = 64 := by
        have := HN64.out.1
        have := cl_lt (q := N / 64) (x := x) hlen
        unfold ch64
        rw [List.length_take, List.length_drop, ← HN.out]
        omega
      obtain ⟨s, hs⟩ : ∃ s, s = foldA s1 P (N / 64) pre := ⟨_, rfl⟩
      have hok : s.ok := by rw [hs]; exact foldA_ok hok1 _ _ _
      rw [← hs] at c1
      have hc := absorbed_any _ 64 _ s U hok hT.k hT.big hlc hBN (Nat.le_refl _) (by decide)
      have HF : Hid (foldA s1 P (N / 64) (pre ++ [x]) = absorb s (ch64 P (cl (N / 64) x))) := (show _ = _ by rw [foldA_snoc, hs])
      generalize absorb s (ch64 P (cl (N / 64) x)) = s2 at hc HF
      clear hBN hlc hs
      have HC := hid hc
      clear hc
      have k0 : U.cell? ⟨w.heap.size + 1, 0, none⟩ = some (.int .u32 ((s.a : Nat) : Int)) := c1.cell 0
      have k1 : U.cell? ⟨w.heap.size + 1, 1, none⟩ = some (.int .u32 ((s.b : Nat) : Int)) := c1.cell 1
      have k2 : U.cell? ⟨w.heap.size + 1, 2, none⟩ = some (.int .u32 ((s.c : Nat) : Int)) := c1.cell 2
      have k3 : U.cell? ⟨w.heap.size + 1, 3, none⟩ = some (.int .u32 ((s.d : Nat) : Int)) := c1.cell 3
      have k4 : U.cell? ⟨w.heap.size + 1, 4, none⟩ = some (.int .u32 ((s.e : Nat) : Int)) := c1.cell 4
      have k5 : U.cell? ⟨w.heap.size + 1, 5, none⟩ = some (.int .u32 ((s.f : Nat) : Int)) := c1.cell 5
      have k6 : U.cell? ⟨w.heap.size + 1, 6, none⟩ = some (.int .u32 ((s.g : Nat) : Int)) := c1.cell 6
      have k7 : U.cell? ⟨w.heap.size + 1, 7, none⟩ = some (.int .u32 ((s.h : Nat) : Int)) := c1.cell 7
      have zb := c1.lt
      gi_wp2_with (refine ⟨trivial, ?_⟩; gi_at_call 33; refine (callsIn_wide.2 HC.out).mono ?_; rintro e U2 ⟨rfl, hb⟩; unfold stV; have cc1 := c1.below hb c1.lt; have k0 : U2.cell? ⟨w.heap.size + 1, 0, none⟩ = some (.int .u32 ((s.a : Nat) : Int)) := cc1.cell 0; have ee0 := cc1.frozen 0; have k1 : U2.cell? ⟨w.heap.size + 1, 1, none⟩ = some (.int .u32 ((s.b : Nat) : Int)) := cc1.cell 1; have ee1 := cc1.frozen 1; have k2 : U2.cell? ⟨w.heap.size + 1, 2, none⟩ = some (.int .u32 ((s.c : Nat) : Int)) := cc1.cell 2; have ee2 := cc1.frozen 2; have k3 : U2.cell? ⟨w.heap.size + 1, 3, none⟩ = some (.int .u32 ((s.d : Nat) : Int)) := cc1.cell 3; have ee3 := cc1.frozen 3; have k4 : U2.cell? ⟨w.heap.size + 1, 4, none⟩ = some (.int .u32 ((s.e : Nat) : Int)) := cc1.cell 4; have ee4 := cc1.frozen 4; have k5 : U2.cell? ⟨w.heap.size + 1, 5, none⟩ = some (.int .u32 ((s.f : Nat) : Int)) := cc1.cell 5; have ee5 := cc1.frozen 5; have k6 : U2.cell? ⟨w.heap.size + 1, 6, none⟩ = some (.int .u32 ((s.g : Nat) : Int)) := cc1.cell 6; have ee6 := cc1.frozen 6; have k7 : U2.cell? ⟨w.heap.size + 1, 7, none⟩ = some (.int .u32 ((s.h : Nat) : Int)) := cc1.cell 7; have ee7 := cc1.frozen 7)
      clear HC
      have hk := kp2_below hb (s := W2.heap.size) (t := W2.heap.size + 1) (by omega) (by omega)
      have hkf := keepsFrom_below hb V3.heap.size
      have c1' : Blk U2 (w.heap.size + 1) 60 (stW s) := c1.below hb c1.lt
      replace c0 := c0.below hb c0.lt
      replace e1 := e1.trans (hb.mono e1.size)
      have hKU2 := (hb.block D (Array.getElem?_eq_some_iff.1 hKU).1).trans hKU
      have hsame2 := (hb.block ad3.block (by omega)).trans hsame
      change KeepsFrom V3.heap.size U (put8 U2 (w.heap.size + 1) s2) ∧ Kp2 (W2.heap.size) (W2.heap.size + 1) U (put8 U2 (w.heap.size + 1) s2) ∧ NJ w D s1 P (N / 64) (pre ++ [x]) (put8 U2 (w.heap.size + 1) s2) ∧ (put8 U2 (w.heap.size + 1) s2).heap[ad3.block]? = V3.heap[ad3.block]? ∧ V3.heap.size ≤ (put8 U2 (w.heap.size + 1) s2).heap.size
      exact ⟨hkf.trans (put8_keeps.from _), hk.trans (kp2_put8 (by omega) (by omega)), ⟨⟨put8_below e1 (by omega), put8_far c0 (by omega), by rw [HF.out]; exact put8_blk c1'⟩, (put8_other (by omega)).trans hKU2⟩, (put8_other (by omega)).trans hsame2, Nat.le_trans hUs (Nat.le_trans hb.size put8_keeps.size)⟩
    case done2 =>
      rintro D2 ys U hD2 rfl ⟨⟨⟨e1, c0, c1⟩, hKU⟩, _, hUs⟩ hKD
      rw [foldA_range _ _ _ _ (Nat.le_refl _)] at c1
      obtain ⟨s2, hs2⟩ : ∃ s, s = absAll s1 P (N / 64) := ⟨_, rfl⟩
      rw [← hs2] at c1
      have HS2 := hid hs2
      clear hs2
      have hc := written_any s2 U
      have HC := hid hc
      clear hc
      have k0 : U.cell? ⟨w.heap.size + 1, 0, none⟩ = some (.int .u32 ((s2.a : Nat) : Int)) := c1.cell 0
      have k1 : U.cell? ⟨w.heap.size + 1, 1, none⟩ = some (.int .u32 ((s2.b : Nat) : Int)) := c1.cell 1
      have k2 : U.cell? ⟨w.heap.size + 1, 2, none⟩ = some (.int .u32 ((s2.c : Nat) : Int)) := c1.cell 2
      have k3 : U.cell? ⟨w.heap.size + 1, 3, none⟩ = some (.int .u32 ((s2.d : Nat) : Int)) := c1.cell 3
      have k4 : U.cell? ⟨w.heap.size + 1, 4, none⟩ = some (.int .u32 ((s2.e : Nat) : Int)) := c1.cell 4
      have k5 : U.cell? ⟨w.heap.size + 1, 5, none⟩ = some (.int .u32 ((s2.f : Nat) : Int)) := c1.cell 5
      have k6 : U.cell? ⟨w.heap.size + 1, 6, none⟩ = some (.int .u32 ((s2.g : Nat) : Int)) := c1.cell 6
      have k7 : U.cell? ⟨w.heap.size + 1, 7, none⟩ = some (.int .u32 ((s2.h : Nat) : Int)) := c1.cell 7
      have hi32 : (Tryd.prog.info? 25).map (·.size) = some (brow (wrt s2)).size := by rw [brow_size, wrt_len]; kernel_rfl
      have ho32 : b32.size = (brow (wrt s2)).size := by rw [brow_size, wrt_len]; rfl
      have HI := hid hi32
      have HO := hid ho32
      have HC0 := hid c0
      clear hi32 ho32
      gi_wp2_with (first | (refine ⟨trivial, ?_⟩; gi_at_call 35; refine (callsIn_wide.2 HC.out).mono ?_; rintro e U2 ⟨rfl, hb⟩) | (refine wpListIn_store_row rfl 25 (.tmp 2) (.tmp 34) rfl w.heap.size (brow (wrt s2)) rfl rfl 25 b32 (HC0.out.below hb HC0.out.lt) HI.out HO.out (brow_one _) ?_))
      have HK2 : (U2.setRow w.heap.size (brow (wrt s2))).heap[D2]? = some (.deferred (some [])) := (setRow_other U2 w.heap.size D2 _ (by omega)).trans ((hb.block D2 (Array.getElem?_eq_some_iff.1 hKD).1).trans hKD)
      have HK1 : (U2.setRow w.heap.size (brow (wrt s2))).heap[D]? = some (.deferred (some [])) := (setRow_other U2 w.heap.size D _ (by omega)).trans ((hb.block D (Array.getElem?_eq_some_iff.1 hKU).1).trans hKU)
      have c2 := (c0.below hb c0.lt).setRow_ (brow (wrt s2))
      have E1 := below_setRow_ (e1.trans (hb.mono e1.size)) (Nat.le_refl _) (brow (wrt s2))
      have HS : Hid (sha [] = wrt s2) := (show sha [] = wrt s2 by rw [sha_parts [] (n := 0) (m := 0) (q := 0) (N := N) rfl rfl (Nat.le_refl _) (HN.out.trans (by rw [HP.out]; rfl)), HS2.out, HS1.out, HP.out]; rfl)
      generalize U2.setRow w.heap.size (brow (wrt s2)) = U3 at HK1 HK2 c2 E1 ⊢
      have G2 := grownBy_putObj' U3 D2 (.deferred none)
      have c3' := c2.cells G2 (fun r e => by cases e; exact ⟨_, HK2, rfl⟩)
      have E2 := E1.grown G2 E1.size (fun r e => by cases e; omega)
      have HK1' : (U3.putObj D2 (.deferred none)).heap[D]? = some (.deferred (some [])) := (World.putObj_heap_other (by omega)).trans HK1
      generalize hU4 : U3.putObj D2 (.deferred none) = U4 at c3' E2 HK1'
      have G1 := grownBy_putObj' U4 D (.deferred none)
      have c4 := c3'.cells G1 (fun r e => by cases e; exact ⟨_, HK1', rfl⟩)
      have E3 := E2.grown G1 E2.size (fun r e => by cases e; omega)
      refine ⟨by simp, .inl ⟨_, _, rfl, run_takeDeferred HK2, ?_⟩⟩
      rw [hU4]
      refine ⟨by simp, .inl ⟨_, _, rfl, run_takeDeferred HK1', ?_⟩⟩
      exact ⟨hv (wrt s2), results_cell_row rfl _ _ w.heap.size 25 (brow (wrt s2)) (0, 0) _ rfl c4 Tryd.underlying25 rfl HI.out, by rw [HS.out], E3⟩
    case stop2 =>
      rintro D c' pre W hD hp h hK
      exact h.elim

  case stop =>
    rintro D c' pre W hD hp h hK
    exact h.elim
theorem sum_any (A : Option Addr) (n c : Nat) (l : List Nat) (w : World) (hT : Tabs w) (hA0 : A = none → n = 0 ∧ c = 0) (hA : BN w w.heap.size A l) (hl : l.length = n) (hn : n ≤ 100000) (hc : n ≤ c) (hcm : c ≤ 9223372036854775807) :
    Calls Tryd.prog 12 #[.slice A n c] w (fun e w' => e = .returned (hv (sha l)) ∧ Below w.heap.size w w') := by
  cases A with
  | none =>
    obtain ⟨rfl, rfl⟩ := hA0 rfl
    obtain rfl := List.length_eq_zero_iff.1 hl
    exact sum_nil w hT
  | some A => exact sum_some A n c l w hT hA hl hn hc hcm
end Go.Proofs.YtenmdfhdiepfcaaDoor
