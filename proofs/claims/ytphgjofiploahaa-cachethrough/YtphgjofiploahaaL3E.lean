import Derived.Test.YtphgjofiploahaaL3D
import Derived.Test.YtphgjofiploahaaReg4
namespace Go.Proofs.Ytphgjofiploahaa
open Go.ChangeShapes Go.WideShapes Go.ChangeAt Go.RowKit
set_option linter.unusedVariables false
set_option linter.unusedSimpArgs false

/-! The fixed fact of layer 3. -/
theorem al3_facts (F X1 X2 X5 : List UInt8) (hF : F.length = 4 * 64) (h1 : X1.length = 64) (h2 : X2.length = 64) (h5 : X5.length = 64) :
    (wrE 4 [] 3 = 0 ∧ wrN 4 [] 3 = 4 ∧ wrF 4 F [] 3 X1 false = F ∧ wrD 4 [] 3 X1 false = [((3 : Int), X1)]) ∧
    (wrE 4 [((3 : Int), X1)] 3 = 0 ∧ wrN 4 [((3 : Int), X1)] 3 = 4 ∧ wrF 4 F [((3 : Int), X1)] 3 X2 false = F ∧ wrD 4 [((3 : Int), X1)] 3 X2 false = [((3 : Int), X1), ((3 : Int), X2)]) ∧
    (showE 4 [((3 : Int), X1), ((3 : Int), X2)] 3 = 0 ∧ showL 4 F [((3 : Int), X1), ((3 : Int), X2)] 3 = X2) ∧
    (loseE 4 [((3 : Int), X1), ((3 : Int), X2)] = 0 ∧ loseN 4 [((3 : Int), X1), ((3 : Int), X2)] = 4 ∧ blk (loseF 4 F [((3 : Int), X1), ((3 : Int), X2)] 1) 3 = X1) ∧
    (flushE 4 [((3 : Int), X1), ((3 : Int), X2)] 0 0 = 0 ∧ flushN 4 [((3 : Int), X1), ((3 : Int), X2)] 0 0 = 4 ∧ blk (flushF 4 F [((3 : Int), X1), ((3 : Int), X2)] 0 0) 3 = X2 ∧ flushD 4 [((3 : Int), X1), ((3 : Int), X2)] 0 0 = []) ∧
    (wrE 4 [((3 : Int), X1), ((3 : Int), X2)] 3 = 0 ∧ wrN 4 [((3 : Int), X1), ((3 : Int), X2)] 3 = 4 ∧ blk (wrF 4 F [((3 : Int), X1), ((3 : Int), X2)] 3 X5 true) 3 = X5 ∧ wrD 4 [((3 : Int), X1), ((3 : Int), X2)] 3 X5 true = []) ∧
    (wrE 4 [((3 : Int), X1), ((3 : Int), X2)] 4 = 5) ∧ rightB 4 [((3 : Int), X1), ((3 : Int), X2)] = true := by
  have hR0 : rightB 4 ([] : List Drt) = true := by simp [rightB]
  have hR1 : rightB 4 [((3 : Int), X1)] = true := by simp [rightB]
  have hR2 : rightB 4 [((3 : Int), X1), ((3 : Int), X2)] = true := by simp [rightB]
  have d1 : ((3 : Int), X1).2.length = 64 ∧ 0 ≤ ((3 : Int), X1).1 ∧ ((3 : Int), X1).1 < (4 : Nat) := ⟨h1, by simp, by simp⟩
  have d2 : ((3 : Int), X2).2.length = 64 ∧ 0 ≤ ((3 : Int), X2).1 ∧ ((3 : Int), X2).1 < (4 : Nat) := ⟨h2, by simp, by simp⟩
  have d5 : ((3 : Int), X5).2.length = 64 ∧ 0 ≤ ((3 : Int), X5).1 ∧ ((3 : Int), X5).1 < (4 : Nat) := ⟨h5, by simp, by simp⟩
  have l1 := over_len d1 hF
  have l2 := over_len d2 l1
  have b2 : blk (app F [((3 : Int), X1), ((3 : Int), X2)]) 3 = X2 := by
    rw [app_cons, app_cons, app_nil, blk_over d2 l1 3, if_pos (by simp)]
  have e3 : wrE 4 [((3 : Int), X1), ((3 : Int), X2)] 3 = 0 := by simp [wrE, hR2]
  refine ⟨⟨by simp [wrE, hR0], by simp [wrN, wrE, hR0], by simp [wrF, wrE, hR0], by simp [wrD, wrE, hR0]⟩, ⟨by simp [wrE, hR1], by simp [wrN, wrE, hR1], by simp [wrF, wrE, hR1], by simp [wrD, wrE, hR1]⟩, ⟨by simp [showE, hR2], ?_⟩, ⟨by simp [loseE, hR2], by simp [loseN, hR2], ?_⟩, ⟨by simp [flushE, hR2, flushOk], by simp [flushN, flushE, hR2, flushOk], ?_, ?_⟩, ⟨e3, by simp [wrN, e3], ?_, ?_⟩, by simp [wrE, hR2], hR2⟩
  · rw [showL, if_pos ⟨hR2, by simp, by simp⟩]; exact b2
  · rw [loseF, if_pos hR2]
    simp only [pickM]
    rw [if_pos (by decide), if_neg (by decide), app_cons, app_nil, blk_over d1 hF 3, if_pos (by simp)]
  · have : flushF 4 F [((3 : Int), X1), ((3 : Int), X2)] 0 0 = app F [((3 : Int), X1), ((3 : Int), X2)] := by simp [flushF, flushE, hR2, flushOk, flushTo, inR]
    rw [this]; exact b2
  · simp [flushD, flushE, hR2, flushOk, flushTo, inR]
  · have : wrF 4 F [((3 : Int), X1), ((3 : Int), X2)] 3 X5 true = over (app F [((3 : Int), X1), ((3 : Int), X2)]) (((3 : Int), X5).1.toNat * 64) ((3 : Int), X5).2 := by simp [wrF, e3, inR]
    rw [this, blk_over d5 (by rw [app_cons, app_cons, app_nil]; exact l2) 3, if_pos (by simp)]
  · simp [wrD, e3, inR]

theorem wpS_makeL {P : Program} {ops : Array Oper} {Q : Act → World → Prop} {i : Nat} {o : Oper} {σ : List (Nat × Bool)} {a : Act} {b : World} {e : TypeId} {sz bytes : Nat} {z : Value} (hel : Elem P e sz bytes z) (ho : ops[i]? = some o) (hw : Region.wanted o (yielded ops a.tmps) = true)
    (t : TypeId) (l c : Operand) (hop : o.op = .makeSlice t l c) (hu : P.underlying t = some (.slice e)) (n : Nat) (hl : a.eval l = .int .i64 n) (hc : a.eval c = .int .i64 n) (b2 : bytes * n ≤ 281474976710656) (b3 : n ≤ maxLen) (xs : List Value) (hxs : (madeCells z.cells (n * sz)).toList = xs)
    (h : ∀ g b', Later b b' → Rw sz b' (.slice (some ⟨g, 0, none⟩) n n) n xs → wpS P ops Q σ (a.put o.dst (.slice (some ⟨g, 0, none⟩) n n)) b') : wpS P ops Q ((i, true) :: σ) a b := by
  intro w hlw
  unfold lOp
  simp only [ho]
  rw [if_pos hw]
  obtain ⟨i0, hi, hz0, hz1, hz2⟩ := hel
  obtain ⟨w', hrun, r1, r2⟩ := run_make_full (P := P) w w.heap.size t e i0 z sz hu hi hz0 hz1 .i64 .i64 n (by rw [hz2]; exact b2) b3 (Nat.le_refl _)
  have hr : (execOp a.eval o).run P w = .ok (.value (.slice (some ⟨w.heap.size, 0, none⟩) n n)) w' := by
    simp [execOp, hop, hl, hc, hrun, Result.andThen]
  unfold Oper.loud
  rw [hr]
  have hlw' : Later w w' := Below.grown0 r2
  rw [hxs] at r1
  exact ⟨hlw', h _ w' (hlw.trans hlw') (Rw.of_owns r1)⟩
theorem made_one (c : Array Value) (n : Nat) (h : c.size = n) (hn : 0 < n) : (madeCells c (1 * n)).toList = c.toList := by
  rw [Nat.one_mul]
  apply List.ext_getElem?
  intro j
  by_cases hj : j < n
  · have : j < c.size := by omega
    simp [madeCells, hj, h, Nat.mod_eq_of_lt hj, this]
  · simp [madeCells, hj, h]
theorem made65 : (madeCells z65.cells (1 * 65)).toList = dv [((0 : Int), List.replicate 64 (0 : UInt8))] := by
  rw [made_one z65.cells 65 z65_size (by decide)]
  have : dv [((0 : Int), List.replicate 64 (0 : UInt8))] = .int .i64 0 :: List.replicate 64 (.int .u8 0) := by
    rw [← bv_replicate]
    simp only [dv, List.flatMap_cons, List.flatMap_nil, List.append_nil]
  rw [this, z65]
  simp only [Value.cells, Array.toList_append, Array.toList_replicate]
  rfl

set_option maxRecDepth 20000 in
set_option maxHeartbeats 4000000 in
theorem alive3_c (iR : IRight) (iS : IShow) (iW : IWrite) (iF : IFlush) (iL : ILose) (iA : IAll) : Alive3 := by
  intro w
  obtain ⟨X1, hX1⟩ : ∃ X, X = List.replicate 64 (1 : UInt8) := ⟨_, rfl⟩
  obtain ⟨X2, hX2⟩ : ∃ X, X = List.replicate 64 (2 : UInt8) := ⟨_, rfl⟩
  obtain ⟨X5, hX5⟩ : ∃ X, X = List.replicate 64 (5 : UInt8) := ⟨_, rfl⟩
  obtain ⟨F, hF⟩ : ∃ F, F = List.replicate (4 * 64) (0 : UInt8) := ⟨_, rfl⟩
  have l1 : Hid (X1.length = 64) := by unfold Hid; rw [hX1]; simp
  have l2 : Hid (X2.length = 64) := by unfold Hid; rw [hX2]; simp
  have l5 : Hid (X5.length = 64) := by unfold Hid; rw [hX5]; simp
  have lF : Hid (F.length = 4 * 64) := by unfold Hid; rw [hF]; simp
  have FA := hide (al3_facts F X1 X2 X5 lF.out l1.out l2.out l5.out)
  have c1 : Hid (∀ w : World, Calls Try.prog 25 #[.int .u8 1] w fun e w' => e = .returned (.agg (bv X1).toArray) ∧ Later w w') := fun w => by rw [hX1]; exact lfilled_c 1 w
  have c2 : Hid (∀ w : World, Calls Try.prog 25 #[.int .u8 2] w fun e w' => e = .returned (.agg (bv X2).toArray) ∧ Later w w') := fun w => by rw [hX2]; exact lfilled_c 2 w
  have c5 : Hid (∀ w : World, Calls Try.prog 25 #[.int .u8 5] w fun e w' => e = .returned (.agg (bv X5).toArray) ∧ Later w w') := fun w => by rw [hX5]; exact lfilled_c 5 w
  have HF := hide hF
  clear hX1 hX2 hX5 hF
  go_enter Try.func8, Try.ntmps8
  go_wp2_with (at_make; refine wpList_make_of Try.elem_z64 rfl _ _ 22 rfl Try.underlying22 _ _ 4 rfl rfl rfl rfl (by decide) (by decide) (bv F) (by rw [made64, HF.out]) ?_)
  rintro w1 ho hl
  have M : Hid (Med w1 (.agg #[.slice (some ⟨w.heap.size, 0, none⟩) 4 4, .slice none 0 0]) 4 F []) := ⟨_, _, rfl, Rw.of_owns ho, Rw.nil 65 w1, fun d hd => by cases hd⟩
  have L := hide hl
  clear ho hl
  go_wp2_with (refine wpList_newM rfl rfl rfl 1 rfl (by simp) (.tmp 15) (by simp) rfl _ none _ _ _ _ rfl ?_)
  intro g w2 hB hl hg
  have hgw : w.heap.size ≤ g := by have := L.out.size; have := hg.out.1; omega
  replace L := hide (L.out.later hl)
  replace M := hide (M.out.later hl)
  have BM := hide hB
  clear hl hB hg
  go_wp2_with fail
  have hc := fun r => ((Later.refl w2).drew.trans (later_rg w2.drew r))
  have m0 := fun r => (BM.out.later (hc r)).cell 0
  have m1 := fun r => (BM.out.later (hc r)).cell 1
  refine wp_region_bag [0, 1] [2, 3, 4, 5, 6, 7] [6] (by kernel_rfl) (by kernel_rfl) (by kernel_rfl) (by kernel_rfl) ?_
  iterate 1 (refine wpM_mild rfl (fun K hK => ?_); go_simp; refine hK _ ?_; clear hK K)
  refine wpM_call rfl (by kernel_rfl) 25 (Plain.of (by kernel_rfl)) [.const (.int .u8 1)] _ rfl [.int .u8 1] rfl (.agg (bv X1).toArray) (fun wx hx => c1.out wx) ?_
  clear m0 m1 hc
  have hwd := (Later.refl w2).drew
  refine wpM_nil (call3_med 2 3 4 5 6 7 rfl rfl rfl rfl rfl rfl rfl rfl rfl rfl rfl rfl _ _ _ _ _ _ rfl rfl rfl rfl rfl rfl rfl (by decide) 11 (Plain.of (by kernel_rfl)) [.tmp 17, .const (.int .i64 3), .tmp 18, .const (.bool false)] _ rfl [.agg #[.slice (some ⟨w.heap.size, 0, none⟩) 4 4, .slice none 0 0], .int .i64 3, .agg (bv X1).toArray, .bool false] rfl rfl rfl rfl rfl rfl g rfl [.slice (some ⟨w.heap.size, 0, none⟩) 4 4, .slice none 0 0] rfl (slices2 _ _ _ _ _ _) (BM.out.later hwd) (by decide) (by kernel_rfl) (by kernel_rfl) (by kernel_rfl) (by kernel_rfl) (by kernel_rfl) (by kernel_rfl) 0 4 F [((3 : Int), X1)] (fun W => Later w W) (L.out.trans hwd) (fun W W' hl h => h.trans hl) (fun u1 u2 W _ h _ => h.setCells hgw [u1, u2] 0) ?_ ?_)
  · intro wx hx
    have := iW _ _ _ _ 3 X1 false wx (M.out.later (hwd.trans hx)) l1.out (by decide) (by decide)
    rw [FA.out.1.1, FA.out.1.2.1, FA.out.1.2.2.1, FA.out.1.2.2.2] at this
    exact this
  intro p3 c3 q3 k3 d3 w3 hl HK3 hM hB
  replace L := hide hl
  replace M := hide hM
  replace BM := hide hB
  clear hl hM hB hwd
  go_wp2_with fail
  have hc := fun r => ((Later.refl w3).drew.trans (later_rg w3.drew r))
  have m0 := fun r => (BM.out.later (hc r)).cell 0
  have m1 := fun r => (BM.out.later (hc r)).cell 1
  refine wp_region_bag [0, 1] [2, 3, 4, 5, 6, 7] [6] (by kernel_rfl) (by kernel_rfl) (by kernel_rfl) (by kernel_rfl) ?_
  iterate 1 (refine wpM_mild rfl (fun K hK => ?_); go_simp; refine hK _ ?_; clear hK K)
  refine wpM_call rfl (by kernel_rfl) 25 (Plain.of (by kernel_rfl)) [.const (.int .u8 2)] _ rfl [.int .u8 2] rfl (.agg (bv X2).toArray) (fun wx hx => c2.out wx) ?_
  clear m0 m1 hc
  have hwd := (Later.refl w3).drew
  refine wpM_nil (call3_med 2 3 4 5 6 7 rfl rfl rfl rfl rfl rfl rfl rfl rfl rfl rfl rfl _ _ _ _ _ _ rfl rfl rfl rfl rfl rfl rfl (by decide) 11 (Plain.of (by kernel_rfl)) [.tmp 23, .const (.int .i64 3), .tmp 24, .const (.bool false)] _ rfl [.agg #[.slice p3 4 c3, .slice q3 k3 d3], .int .i64 3, .agg (bv X2).toArray, .bool false] rfl rfl rfl rfl rfl rfl g rfl [.slice p3 4 c3, .slice q3 k3 d3] rfl (slices2 _ _ _ _ _ _) (BM.out.later hwd) (by decide) (by kernel_rfl) (by kernel_rfl) (by kernel_rfl) (by kernel_rfl) (by kernel_rfl) (by kernel_rfl) 0 4 F [((3 : Int), X1), ((3 : Int), X2)] (fun W => Later w W) (L.out.trans hwd) (fun W W' hl h => h.trans hl) (fun u1 u2 W _ h _ => h.setCells hgw [u1, u2] 0) ?_ ?_)
  · intro wx hx
    have := iW _ _ _ _ 3 X2 false wx (M.out.later (hwd.trans hx)) l2.out (by decide) (by decide)
    rw [FA.out.2.1.1, FA.out.2.1.2.1, FA.out.2.1.2.2.1, FA.out.2.1.2.2.2] at this
    exact this
  intro p4 c4 q4 k4 d4 w4 hl HK4 hM hB
  replace L := hide hl
  replace M := hide hM
  replace BM := hide hB
  obtain rfl : k4 = 2 := HK4.out
  clear hl hM hB hwd HK3
  have m0 := BM.out.cell 0
  have m1 := BM.out.cell 1
  go_wp2_with fail
  have hcl := iS _ _ _ _ 3 _ M.out (by decide) (by decide)
  rw [FA.out.2.2.1.1, FA.out.2.2.1.2] at hcl
  refine hcl.mono ?_
  clear hcl m0 m1
  rintro e w5 ⟨rfl, hl⟩
  replace L := hide (L.out.later hl)
  replace M := hide (M.out.later hl)
  replace BM := hide (BM.out.later hl)
  clear hl
  go_wp2_with (refine wpList_newB rfl rfl rfl 4 rfl (by simp) (.tmp 31) (by simp) rfl X2 l2.out rfl ?_)
  intro gX w6 hB hl hg
  replace L := hide (L.out.later hl)
  replace M := hide (M.out.later hl)
  replace BM := hide (BM.out.later hl)
  have BX := hide hB
  clear hl hB hg
  have m0 := BM.out.cell 0
  have m1 := BM.out.cell 1
  go_wp2_with fail
  have hcl := iL _ _ _ _ 1 _ M.out (by decide)
  rw [FA.out.2.2.2.1.1, FA.out.2.2.2.1.2.1] at hcl
  refine hcl.mono ?_
  clear hcl m0 m1
  rintro e w7 ⟨v7, rfl, hl, hA⟩
  replace L := hide (L.out.later hl)
  replace M := hide (M.out.later hl)
  replace BM := hide (BM.out.later hl)
  replace BX := hide (BX.out.later hl)
  have A := hide hA
  obtain ⟨p7, c7, q7, k7, d7, rfl, HK7, hn7, hk7⟩ := hA.shape
  clear hA hl
  go_wp2_with (refine wpList_newM rfl rfl rfl 6 rfl (by simp) (.tmp 36) (by simp) rfl p7 q7 _ c7 k7 d7 rfl ?_)
  intro g7 w8 hB hl hg
  replace L := hide (L.out.later hl)
  replace M := hide (M.out.later hl)
  replace BM := hide (BM.out.later hl)
  replace BX := hide (BX.out.later hl)
  replace A := hide (A.out.later hl)
  have BA := hide hB
  clear hl hB hg
  have m0 := BM.out.cell 0
  have m1 := BM.out.cell 1
  go_wp2_with fail
  have hcl := iF _ _ _ _ 0 0 _ M.out (by decide) (by decide) (by decide) (by decide)
  rw [FA.out.2.2.2.2.1.1, FA.out.2.2.2.2.1.2.1, FA.out.2.2.2.2.1.2.2.2] at hcl
  refine hcl.mono ?_
  clear hcl m0 m1
  rintro e w9 ⟨v9, rfl, hl, hA⟩
  replace L := hide (L.out.later hl)
  replace M := hide (M.out.later hl)
  replace BM := hide (BM.out.later hl)
  replace BX := hide (BX.out.later hl)
  replace A := hide (A.out.later hl)
  replace BA := hide (BA.out.later hl)
  have B := hide hA
  obtain ⟨p9, c9, q9, k9, d9, rfl, HK9, hn9, hk9⟩ := hA.shape
  clear hA hl
  go_wp2_with (refine wpList_newM rfl rfl rfl 8 rfl (by simp) (.tmp 41) (by simp) rfl p9 q9 _ c9 k9 d9 rfl ?_)
  intro g9 wa hB hl hg
  replace L := hide (L.out.later hl)
  replace M := hide (M.out.later hl)
  replace BM := hide (BM.out.later hl)
  replace BX := hide (BX.out.later hl)
  replace A := hide (A.out.later hl)
  replace BA := hide (BA.out.later hl)
  replace B := hide (B.out.later hl)
  have BB := hide hB
  clear hl hB hg
  go_wp2_with fail
  have hc := fun r => ((Later.refl wa).drew.trans (later_rg wa.drew r))
  have m0 := fun r => (BM.out.later (hc r)).cell 0
  have m1 := fun r => (BM.out.later (hc r)).cell 1
  refine wp_region_bag [0, 1] [2, 3, 4, 5, 6, 7, 8] [7] (by kernel_rfl) (by kernel_rfl) (by kernel_rfl) (by kernel_rfl) ?_
  iterate 1 (refine wpM_mild rfl (fun K hK => ?_); go_simp; refine hK _ ?_; clear hK K)
  refine wpM_call rfl (by kernel_rfl) 25 (Plain.of (by kernel_rfl)) [.const (.int .u8 5)] _ rfl [.int .u8 5] rfl (.agg (bv X5).toArray) (fun wx hx => c5.out wx) ?_
  clear m0 m1 hc
  have hwd := (Later.refl wa).drew
  refine wpM_nil (call2_med 2 3 4 5 6 7 8 rfl rfl rfl rfl rfl rfl rfl rfl rfl rfl rfl rfl rfl rfl _ _ _ _ _ _ rfl rfl rfl rfl rfl rfl rfl rfl (by decide) 11 (Plain.of (by kernel_rfl)) [.tmp 44, .const (.int .i64 3), .tmp 45, .const (.bool true)] _ rfl [.agg #[.slice p4 4 c4, .slice q4 2 d4], .int .i64 3, .agg (bv X5).toArray, .bool true] rfl rfl rfl rfl rfl rfl rfl (by decide) (by kernel_rfl) (by kernel_rfl) (by kernel_rfl) (by kernel_rfl) (by kernel_rfl) (by kernel_rfl) (by kernel_rfl) 0 4 (wrF 4 F [((3 : Int), X1), ((3 : Int), X2)] 3 X5 true) [] ?_ ?_)
  · intro wx hx
    have := iW _ _ _ _ 3 X5 true wx (M.out.later (hwd.trans hx)) l5.out (by decide) (by decide)
    rw [FA.out.2.2.2.2.2.1.1, FA.out.2.2.2.2.2.1.2.1, FA.out.2.2.2.2.2.1.2.2.2] at this
    exact this
  intro pc cc qc kc dc gc wc hl hg HKc hA hB
  have C := hide hA
  have BC := hide hB
  have hl' := hwd.trans hl
  replace L := hide (L.out.later hl')
  replace M := hide (M.out.later hl')
  replace BM := hide (BM.out.later hl')
  replace BX := hide (BX.out.later hl')
  replace A := hide (A.out.later hl')
  replace BA := hide (BA.out.later hl')
  replace B := hide (B.out.later hl')
  replace BB := hide (BB.out.later hl')
  clear hl hl' hA hB hg hwd
  go_wp2_with fail
  have hc := fun r => ((Later.refl wc).drew.trans (later_rg wc.drew r))
  have m0 := fun r => (BM.out.later (hc r)).cell 0
  have m1 := fun r => (BM.out.later (hc r)).cell 1
  refine wp_region_bag [0, 1] [2, 3, 4, 5, 6, 7, 8] [7] (by kernel_rfl) (by kernel_rfl) (by kernel_rfl) (by kernel_rfl) ?_
  iterate 1 (refine wpM_mild rfl (fun K hK => ?_); go_simp; refine hK _ ?_; clear hK K)
  refine wpM_call rfl (by kernel_rfl) 25 (Plain.of (by kernel_rfl)) [.const (.int .u8 5)] _ rfl [.int .u8 5] rfl (.agg (bv X5).toArray) (fun wx hx => c5.out wx) ?_
  clear m0 m1 hc
  have hwd := (Later.refl wc).drew
  refine wpM_nil (call2_med 2 3 4 5 6 7 8 rfl rfl rfl rfl rfl rfl rfl rfl rfl rfl rfl rfl rfl rfl _ _ _ _ _ _ rfl rfl rfl rfl rfl rfl rfl rfl (by decide) 11 (Plain.of (by kernel_rfl)) [.tmp 50, .const (.int .i64 4), .tmp 51, .const (.bool true)] _ rfl [.agg #[.slice p4 4 c4, .slice q4 2 d4], .int .i64 4, .agg (bv X5).toArray, .bool true] rfl rfl rfl rfl rfl rfl rfl (by decide) (by kernel_rfl) (by kernel_rfl) (by kernel_rfl) (by kernel_rfl) (by kernel_rfl) (by kernel_rfl) (by kernel_rfl) 5 (wrN 4 [((3 : Int), X1), ((3 : Int), X2)] 4) (wrF 4 F [((3 : Int), X1), ((3 : Int), X2)] 4 X5 true) (wrD 4 [((3 : Int), X1), ((3 : Int), X2)] 4 X5 true) ?_ ?_)
  · intro wx hx
    have := iW _ _ _ _ 4 X5 true wx (M.out.later (hwd.trans hx)) l5.out (by decide) (by decide)
    rw [FA.out.2.2.2.2.2.2.1] at this
    exact this
  intro pd cd qd kd dd gd wd hl hg HKd hA hB
  have hl' := hwd.trans hl
  replace L := hide (L.out.later hl')
  replace M := hide (M.out.later hl')
  replace BM := hide (BM.out.later hl')
  replace BX := hide (BX.out.later hl')
  replace A := hide (A.out.later hl')
  replace BA := hide (BA.out.later hl')
  replace B := hide (B.out.later hl')
  replace BB := hide (BB.out.later hl')
  replace C := hide (C.out.later hl')
  replace BC := hide (BC.out.later hl')
  clear hl hl' hA hB hg hwd
  obtain rfl : k7 = 0 := HK7.out
  obtain rfl : k9 = 0 := HK9.out
  obtain rfl : kc = 0 := HKc.out
  have hF1 := hide FA.out.2.2.2.1.2.2
  have hF2 := hide FA.out.2.2.2.2.1.2.2.1
  have hF5 := hide FA.out.2.2.2.2.2.1.2.2.1
  have hRt := hide FA.out.2.2.2.2.2.2.2
  generalize loseF 4 F [((3 : Int), X1), ((3 : Int), X2)] 1 = G1 at *
  generalize flushF 4 F [((3 : Int), X1), ((3 : Int), X2)] 0 0 = G2 at *
  generalize wrF 4 F [((3 : Int), X1), ((3 : Int), X2)] 3 X5 true = G5 at *
  obtain ⟨bA, oA, rfl, rA⟩ := A.out.blocks.lies? (by omega)
  obtain ⟨bB, oB, rfl, rB⟩ := B.out.blocks.lies? (by omega)
  obtain ⟨bC, oC, rfl, rC⟩ := C.out.blocks.lies? (by omega)
  have RA : Hid (wd.rangeAt bA (oA + 192) (bv X1)) := by have := range_part rA 192 64; rw [bv_part] at this; rw [← hF1.out]; exact this
  have RB : Hid (wd.rangeAt bB (oB + 192) (bv X2)) := by have := range_part rB 192 64; rw [bv_part] at this; rw [← hF2.out]; exact this
  have RC : Hid (wd.rangeAt bC (oC + 192) (bv X5)) := by have := range_part rC 192 64; rw [bv_part] at this; rw [← hF5.out]; exact this
  have RX := hide BX.out.range
  clear rA rB rC FA
  have a0 := BA.out.cell 0
  have b0 := BB.out.cell 0
  have x0 := BC.out.cell 0
  go_wp2_with fail
  clear a0 b0 x0
  have hc := fun r => ((Later.refl wd).drew.trans (later_rg wd.drew r))
  have hwd := (Later.refl wd).drew
  have m0 := fun r => (BM.out.later (hc r)).cell 0
  have m1 := fun r => (BM.out.later (hc r)).cell 1
  have a0 := fun r => (BA.out.later (hc r)).cell 0
  have a1 := fun r => (BA.out.later (hc r)).cell 1
  have b0 := fun r => (BB.out.later (hc r)).cell 0
  have b1 := fun r => (BB.out.later (hc r)).cell 1
  have x0 := fun r => (BC.out.later (hc r)).cell 0
  have x1 := fun r => (BC.out.later (hc r)).cell 1
  refine wp_region_text [false, false, false, false, false, false, false, false, false, false, false, false, false, false, false, false, false, false, false, false, false, false, false, false, false, false, false, false, false, false, false, false, false, false, false, false, false, false, false, false, false, false, false, false, false, false, false, false, false, false, false, false, false, false, false, false, false, false, false, false, false, false, false, false, false, false, false, false, false, false, false, false, false, false, false, false, false, false, false, false, false, false, false, false, true, false, false, false, false, false, false, true, false, false, false, false] (by kernel_rfl) (by kernel_rfl) (by kernel_rfl) (by kernel_rfl) ?_
  rw [show (List.range' 0 (List.length [false, false, false, false, false, false, false, false, false, false, false, false, false, false, false, false, false, false, false, false, false, false, false, false, false, false, false, false, false, false, false, false, false, false, false, false, false, false, false, false, false, false, false, false, false, false, false, false, false, false, false, false, false, false, false, false, false, false, false, false, false, false, false, false, false, false, false, false, false, false, false, false, false, false, false, false, false, false, false, false, false, false, false, false, true, false, false, false, false, false, false, true, false, false, false, false])).zip [false, false, false, false, false, false, false, false, false, false, false, false, false, false, false, false, false, false, false, false, false, false, false, false, false, false, false, false, false, false, false, false, false, false, false, false, false, false, false, false, false, false, false, false, false, false, false, false, false, false, false, false, false, false, false, false, false, false, false, false, false, false, false, false, false, false, false, false, false, false, false, false, false, false, false, false, false, false, false, false, false, false, false, false, true, false, false, false, false, false, false, true, false, false, false, false] = [(0, false), (1, false), (2, false), (3, false), (4, false), (5, false), (6, false), (7, false), (8, false), (9, false), (10, false), (11, false), (12, false), (13, false), (14, false), (15, false), (16, false), (17, false), (18, false), (19, false), (20, false), (21, false), (22, false), (23, false), (24, false), (25, false), (26, false), (27, false), (28, false), (29, false), (30, false), (31, false), (32, false), (33, false), (34, false), (35, false), (36, false), (37, false), (38, false), (39, false), (40, false), (41, false), (42, false), (43, false), (44, false), (45, false), (46, false), (47, false), (48, false), (49, false), (50, false), (51, false), (52, false), (53, false), (54, false), (55, false), (56, false), (57, false), (58, false), (59, false), (60, false), (61, false), (62, false), (63, false), (64, false), (65, false), (66, false), (67, false), (68, false), (69, false), (70, false), (71, false), (72, false), (73, false), (74, false), (75, false), (76, false), (77, false), (78, false), (79, false), (80, false), (81, false), (82, false), (83, false), (84, true), (85, false), (86, false), (87, false), (88, false), (89, false), (90, false), (91, true), (92, false), (93, false), (94, false), (95, false)] from rfl]
  iterate 27 (refine wpS_mild rfl (fun K hK => ?_); go_simp; refine hK _ ?_; clear hK K)
  refine wpS_loadG rfl (by kernel_rfl) 27 (.tmp 4) rfl gX 0 rfl (bv X2) _ ((World.rangeAt_drew _ _ _ _).2 RX.out) Try.underlying27 rfl (by rw [Try.info_block, bv_length, l2.out]) ?_
  refine wpS_call rfl (by kernel_rfl) 25 (Plain.of (by kernel_rfl)) [.const (.int .u8 2)] _ rfl [.int .u8 2] rfl (.agg (bv X2).toArray) (fun wx hx => c2.out wx) ?_
  refine wpS_eqG rfl (by kernel_rfl) 27 27 (.tmp 98) (.tmp 99) rfl _ _ rfl rfl Try.guard_block true (fun w => by rw [block_eq X2 X2 l2.out l2.out]; simp) ?_
  iterate 11 (refine wpS_mild rfl (fun K hK => ?_); go_simp; refine hK _ ?_; clear hK K)
  refine wpS_loadG rfl (by kernel_rfl) 27 (.tmp 111) rfl bA (oA + 192) rfl (bv X1) _ ((World.rangeAt_drew _ _ _ _).2 RA.out) Try.underlying27 rfl (by rw [Try.info_block, bv_length, l1.out]) ?_
  refine wpS_call rfl (by kernel_rfl) 25 (Plain.of (by kernel_rfl)) [.const (.int .u8 1)] _ rfl [.int .u8 1] rfl (.agg (bv X1).toArray) (fun wx hx => c1.out wx) ?_
  refine wpS_eqG rfl (by kernel_rfl) 27 27 (.tmp 112) (.tmp 113) rfl _ _ rfl rfl Try.guard_block true (fun w => by rw [block_eq X1 X1 l1.out l1.out]; simp) ?_
  iterate 11 (refine wpS_mild rfl (fun K hK => ?_); go_simp; refine hK _ ?_; clear hK K)
  refine wpS_loadG rfl (by kernel_rfl) 27 (.tmp 125) rfl bB (oB + 192) rfl (bv X2) _ ((World.rangeAt_drew _ _ _ _).2 RB.out) Try.underlying27 rfl (by rw [Try.info_block, bv_length, l2.out]) ?_
  refine wpS_call rfl (by kernel_rfl) 25 (Plain.of (by kernel_rfl)) [.const (.int .u8 2)] _ rfl [.int .u8 2] rfl (.agg (bv X2).toArray) (fun wx hx => c2.out wx) ?_
  refine wpS_eqG rfl (by kernel_rfl) 27 27 (.tmp 126) (.tmp 127) rfl _ _ rfl rfl Try.guard_block true (fun w => by rw [block_eq X2 X2 l2.out l2.out]; simp) ?_
  iterate 11 (refine wpS_mild rfl (fun K hK => ?_); go_simp; refine hK _ ?_; clear hK K)
  refine wpS_loadG rfl (by kernel_rfl) 27 (.tmp 139) rfl bC (oC + 192) rfl (bv X5) _ ((World.rangeAt_drew _ _ _ _).2 RC.out) Try.underlying27 rfl (by rw [Try.info_block, bv_length, l5.out]) ?_
  refine wpS_call rfl (by kernel_rfl) 25 (Plain.of (by kernel_rfl)) [.const (.int .u8 5)] _ rfl [.int .u8 5] rfl (.agg (bv X5).toArray) (fun wx hx => c5.out wx) ?_
  refine wpS_eqG rfl (by kernel_rfl) 27 27 (.tmp 140) (.tmp 141) rfl _ _ rfl rfl Try.guard_block true (fun w => by rw [block_eq X5 X5 l5.out l5.out]; simp) ?_
  iterate 9 (refine wpS_mild rfl (fun K hK => ?_); go_simp; refine hK _ ?_; clear hK K)
  refine wpS_call rfl (by kernel_rfl) 16 (Plain.of (by kernel_rfl)) [.tmp 151] _ rfl [.agg #[.slice p4 4 c4, .slice q4 2 d4]] rfl (.bool true) (fun wx hx => (iR _ _ _ _ _ (M.out.later (hwd.trans hx))).mono fun e w' ⟨he, hl⟩ => ⟨by rw [he, hRt.out], hl⟩) ?_
  iterate 2 (refine wpS_mild rfl (fun K hK => ?_); go_simp; refine hK _ ?_; clear hK K)
  refine wpS_makeL Try.elem_dirty rfl (by kernel_rfl) 23 _ _ rfl Try.underlying23 1 rfl rfl (by decide) (by decide) _ made65 ?_
  intro gm e1 he1 hm1
  clear m0 m1 a0 a1 b0 b1 x0 x1 hc
  iterate 1 (refine wpS_mild rfl (fun K hK => ?_); go_simp; refine hK _ ?_; clear hK K)
  refine wpS_call rfl (by kernel_rfl) 16 (Plain.of (by kernel_rfl)) [.tmp 156] _ rfl [.agg #[.slice none 0 0, .slice (some ⟨gm, 0, none⟩) 1 1]] rfl (.bool false) (fun wx hx => (iR _ 0 [] [((0 : Int), List.replicate 64 (0 : UInt8))] _ ⟨_, _, rfl, Rw.nil 64 wx, hm1.later hx, fun d hd => by simp at hd; subst hd; simp⟩).mono fun e w' ⟨he, hl⟩ => ⟨by rw [he]; simp [rightB], hl⟩) ?_
  have hc := fun r => (hwd.trans he1).trans (later_rg e1 r)
  have m0 := fun r => (BM.out.later (hc r)).cell 0
  have m1 := fun r => (BM.out.later (hc r)).cell 1
  iterate 4 (refine wpS_mild rfl (fun K hK => ?_); go_simp; refine hK _ ?_; clear hK K)
  refine wpS_callL rfl (by kernel_rfl) 19 (Plain.of (by kernel_rfl)) [.tmp 161] _ rfl [.agg #[.slice p4 4 c4, .slice q4 2 d4]] rfl (fun v w' => ∃ a c, v = .slice a 4 c) (fun wx hx => (iA _ _ _ _ _ (M.out.later ((hwd.trans he1).trans hx))).mono fun e w' ⟨v', he, hl, hr⟩ => ⟨v', he, hl, ?_⟩) ?_
  · rw [show allN 4 [((3 : Int), X1), ((3 : Int), X2)] = 4 from by simp [allN, hRt.out]] at hr
    exact hr.shape
  rintro v e2 he2 ⟨av, cv, rfl⟩
  clear m0 m1 hc
  iterate 4 (refine wpS_mild rfl (fun K hK => ?_); go_simp; refine hK _ ?_; clear hK K)
  refine wpS_nil (fun wx hx => ?_)
  have LX := hide (L.out.trans ((hwd.trans (he1.trans he2)).trans hx))
  clear hx
  go_wp2
  go_ret
  exact ⟨rfl, LX.out⟩
end Go.Proofs.Ytphgjofiploahaa
