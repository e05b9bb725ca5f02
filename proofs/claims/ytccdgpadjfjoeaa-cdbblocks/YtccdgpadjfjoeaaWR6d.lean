import Derived.Test.YtccdgpadjfjoeaaMAO
namespace Go.Proofs.Ytccdgpadjfjoeaa
open Go.ChangeShapes Go.WideShapes Go.ChangeAt Go.RowKit
set_option linter.unusedVariables false
set_option linter.unusedSimpArgs false

set_option maxRecDepth 20000 in
set_option maxHeartbeats 1000000 in
theorem rrest_37 {v : Value} {l : List UInt8} (w : World) (h : Bs w v l) (hl : l.length = 10) : Calls Try.prog 24 #[.int .i64 37, v] w fun e w' => e = .returned (.tuple #[cval (restS 37 l).1, .bool (restS 37 l).2]) ∧ Later w w' := by
  have HR : Hid (restS 37 l = lb (((bigAt l 2 4 : Int) == 0) && ((Bn l 8 : Int) % 2 == 0)) (37, 0, 0, 0, 0)) := rfl
  obtain ⟨b, off, cap, rfl, hc⟩ := h.cells6 hl (by omega)
  have HB := hide h
  have b1 := Bn_lt l 1
  have b2 := Bn_lt l 2
  have b3 := Bn_lt l 3
  have b4 := Bn_lt l 4
  have b8 := Bn_lt l 8
  have HC := hide hc
  clear hc h hl
  have z1 := wr_of (x := (Bn l 1 : Int)) (by omega)
  have z2 := wr_of (x := (Bn l 2 : Int)) (by omega)
  have z3 := wr_of (x := (Bn l 3 : Int)) (by omega)
  have z4 := wr_of (x := (Bn l 4 : Int)) (by omega)
  have z5 := wr_of (x := (Bn l 1 : Int) % 2) (by omega)
  have z6 := wr_of (x := (Bn l 2 : Int) % 64) (by omega)
  have z7 := wr_of (x := (Bn l 2 : Int) / 64) (by omega)
  have z8 := wr_of (x := (Bn l 4 : Int) % 4) (by omega)
  have v1 := wr8_of (x := (Bn l 1 : Int) / 16) (by omega)
  have v2 := wr8_of (x := (Bn l 2 : Int) / 64) (by omega)
  have v3 := wr8_of (x := (Bn l 1 : Int) / 8) (by omega)
  have v4 := wr8_of (x := (Bn l 1 : Int) / 4) (by omega)
  have v5 := wr8_of (x := (Bn l 1 : Int) / 2) (by omega)
  have m1 := tm2
  have m2 := tm4
  have m3 := tm32
  have m4 := tm64
  have m5 := td16
  have m6 := td64
  have m7 := tdm16
  have B4 := hide (((Box.new w 26 #[.int .i64 0, .int .u64 0, .int .i64 0, .int .i64 0, .int .i64 0])).alloc (.cells #[.int .i64 37, .int .u64 0, .int .i64 0, .int .i64 0, .int .i64 0] 26))
  have B6 := hide (Box.new' (w.alloc (.cells #[.int .i64 0, .int .u64 0, .int .i64 0, .int .i64 0, .int .i64 0] 26)) 26 #[.int .i64 37, .int .u64 0, .int .i64 0, .int .i64 0, .int .i64 0] _ rfl (w.heap.size + 1) (by simp))
  have LL := hide (((Later.refl w).alloc (.cells #[.int .i64 0, .int .u64 0, .int .i64 0, .int .i64 0, .int .i64 0] 26)).alloc (.cells #[.int .i64 37, .int .u64 0, .int .i64 0, .int .i64 0, .int .i64 0] 26))
  go_enter Try.func24, Try.ntmps24
  go_wp2_with fail
  generalize ((w.alloc (.cells #[.int .i64 0, .int .u64 0, .int .i64 0, .int .i64 0, .int .i64 0] 26)).alloc (.cells #[.int .i64 37, .int .u64 0, .int .i64 0, .int .i64 0, .int .i64 0] 26)) = w1 at *
  refine (rbig6_c 2 4 _ (HB.out.later LL.out)).mono ?_
  rintro e w2 ⟨rfl, hl⟩
  replace B4 := hide (B4.out.later hl)
  replace B6 := hide (B6.out.later hl)
  replace LL := hide (LL.out.trans hl)
  clear hl
  have k8 := HC.out 8 (by omega) _ LL.out
  cases hb : ((bigAt l 2 4 : Int) == 0) with
  | true =>
    replace HR : Hid (restS 37 l = lb ((Bn l 8 : Int) % 2 == 0) (37, 0, 0, 0, 0)) := by rw [Hid, HR.out, hb, Bool.true_and]
    have e0 := B6.out.cell 0
    have e1 := B6.out.cell 1
    have e2 := B6.out.cell 2
    have e3 := B6.out.cell 3
    have e4 := B6.out.cell 4
    go_wp2_with (refine wpList_storeU rfl 26 (.tmp 4) (.tmp 195) rfl w.heap.size 0 rfl (cc (37, 0, 0, 0, 0)) rfl Try.info_cmd (cc_one _) _ _ B4.out (by simp) ?_)
    intro wz hz
    have BZ : Hid (Box wz w.heap.size 26 (cc (37, 0, 0, 0, 0))) := by rw [hz.out]; exact B4.out.all _ rfl
    have LZ : Hid (Later w wz) := by rw [hz.out]; exact LL.out.setCells (Nat.le_refl _) _ _
    clear hz e0 e1 e2 e3 e4
    go_wp2
    refine bodyPost_ret (results_cell_tmp rfl _ _ _ w.heap.size 0 rfl _ (.bool ((Bn l 8 : Int) % 2 == 0)) (load_cmd (c := (37, 0, 0, 0, 0)) BZ.out rfl) (by rfl)) rfl ⟨by rw [HR.out], LZ.out⟩
  | false =>
    replace HR : Hid (restS 37 l = lb false (37, 0, 0, 0, 0)) := by rw [Hid, HR.out, hb, Bool.false_and]
    have e0 := B6.out.cell 0
    have e1 := B6.out.cell 1
    have e2 := B6.out.cell 2
    have e3 := B6.out.cell 3
    have e4 := B6.out.cell 4
    go_wp2_with (refine wpList_storeU rfl 26 (.tmp 4) (.tmp 195) rfl w.heap.size 0 rfl (cc (37, 0, 0, 0, 0)) rfl Try.info_cmd (cc_one _) _ _ B4.out (by simp) ?_)
    intro wz hz
    have BZ : Hid (Box wz w.heap.size 26 (cc (37, 0, 0, 0, 0))) := by rw [hz.out]; exact B4.out.all _ rfl
    have LZ : Hid (Later w wz) := by rw [hz.out]; exact LL.out.setCells (Nat.le_refl _) _ _
    clear hz e0 e1 e2 e3 e4
    go_wp2
    refine bodyPost_ret (results_cell_tmp rfl _ _ _ w.heap.size 0 rfl _ (.bool false) (load_cmd (c := (37, 0, 0, 0, 0)) BZ.out rfl) (by rfl)) rfl ⟨by rw [HR.out], LZ.out⟩
set_option maxRecDepth 20000 in
set_option maxHeartbeats 1000000 in
theorem rrest_160 {v : Value} {l : List UInt8} (w : World) (h : Bs w v l) (hl : l.length = 12) : Calls Try.prog 24 #[.int .i64 160, v] w fun e w' => e = .returned (.tuple #[cval (restS 160 l).1, .bool (restS 160 l).2]) ∧ Later w w' := by
  have HR : Hid (restS 160 l = lb ((decide ((Bn l 2 : Int) ≤ 2)) && (decide ((16 : Int) ≤ (bigAt l 6 4 : Int)))) (160, 0, (bigAt l 6 4 : Int), 0, 0)) := rfl
  obtain ⟨b, off, cap, rfl, hc⟩ := h.cells6 hl (by omega)
  have HB := hide h
  have b1 := Bn_lt l 1
  have b2 := Bn_lt l 2
  have b3 := Bn_lt l 3
  have b4 := Bn_lt l 4
  have b8 := Bn_lt l 8
  have HC := hide hc
  clear hc h hl
  have z1 := wr_of (x := (Bn l 1 : Int)) (by omega)
  have z2 := wr_of (x := (Bn l 2 : Int)) (by omega)
  have z3 := wr_of (x := (Bn l 3 : Int)) (by omega)
  have z4 := wr_of (x := (Bn l 4 : Int)) (by omega)
  have z5 := wr_of (x := (Bn l 1 : Int) % 2) (by omega)
  have z6 := wr_of (x := (Bn l 2 : Int) % 64) (by omega)
  have z7 := wr_of (x := (Bn l 2 : Int) / 64) (by omega)
  have z8 := wr_of (x := (Bn l 4 : Int) % 4) (by omega)
  have v1 := wr8_of (x := (Bn l 1 : Int) / 16) (by omega)
  have v2 := wr8_of (x := (Bn l 2 : Int) / 64) (by omega)
  have v3 := wr8_of (x := (Bn l 1 : Int) / 8) (by omega)
  have v4 := wr8_of (x := (Bn l 1 : Int) / 4) (by omega)
  have v5 := wr8_of (x := (Bn l 1 : Int) / 2) (by omega)
  have m1 := tm2
  have m2 := tm4
  have m3 := tm32
  have m4 := tm64
  have m5 := td16
  have m6 := td64
  have m7 := tdm16
  have B4 := hide (((Box.new w 26 #[.int .i64 0, .int .u64 0, .int .i64 0, .int .i64 0, .int .i64 0])).alloc (.cells #[.int .i64 160, .int .u64 0, .int .i64 0, .int .i64 0, .int .i64 0] 26))
  have B6 := hide (Box.new' (w.alloc (.cells #[.int .i64 0, .int .u64 0, .int .i64 0, .int .i64 0, .int .i64 0] 26)) 26 #[.int .i64 160, .int .u64 0, .int .i64 0, .int .i64 0, .int .i64 0] _ rfl (w.heap.size + 1) (by simp))
  have LL := hide (((Later.refl w).alloc (.cells #[.int .i64 0, .int .u64 0, .int .i64 0, .int .i64 0, .int .i64 0] 26)).alloc (.cells #[.int .i64 160, .int .u64 0, .int .i64 0, .int .i64 0, .int .i64 0] 26))
  go_enter Try.func24, Try.ntmps24
  have zb := wr_of (x := (bigAt l 6 4 : Int)) (by have := bigAt_lt (l := l) (a := 6) (n := 4) 0 (by decide); omega)
  go_wp2_with fail
  generalize ((w.alloc (.cells #[.int .i64 0, .int .u64 0, .int .i64 0, .int .i64 0, .int .i64 0] 26)).alloc (.cells #[.int .i64 160, .int .u64 0, .int .i64 0, .int .i64 0, .int .i64 0] 26)) = w1 at *
  refine (rbig6_c 6 4 _ (HB.out.later LL.out)).mono ?_
  rintro e w2 ⟨rfl, hl⟩
  replace B4 := hide (B4.out.later hl)
  replace B6 := hide (B6.out.later hl)
  replace LL := hide (LL.out.trans hl)
  clear hl
  go_wp2_with (refine wpList_storeI rfl 3 (.tmp 185) (.tmp 184) rfl (w.heap.size + 1) 2 rfl .i64 (bigAt l 6 4 : Int) rfl Try.info1_int _ _ B6.out (by simp) ?_)
  intro w2 hB hw
  replace B4 := hide (B4.out.apart (w.heap.size + 1) (by omega) [.int .i64 (bigAt l 6 4 : Int)] 2)
  replace LL := hide (LL.out.setCells (g := w.heap.size + 1) (Nat.le_succ _) [.int .i64 (bigAt l 6 4 : Int)] 2)
  rw [← hw.out] at B4 LL
  replace B6 : Hid (Box w2 (w.heap.size + 1) 26 (cc (160, 0, (bigAt l 6 4 : Int), 0, 0))) := hB
  clear hB hw
  have k2 := HC.out 2 (by omega) _ LL.out
  cases hb : (decide ((Bn l 2 : Int) ≤ 2)) with
  | true =>
    replace HR : Hid (restS 160 l = lb (decide ((16 : Int) ≤ (bigAt l 6 4 : Int))) (160, 0, (bigAt l 6 4 : Int), 0, 0)) := by rw [Hid, HR.out, hb, Bool.true_and]
    have e0 := B6.out.cell 0
    have e1 := B6.out.cell 1
    have e2 := B6.out.cell 2
    have e3 := B6.out.cell 3
    have e4 := B6.out.cell 4
    go_wp2_with (refine wpList_storeU rfl 26 (.tmp 4) (.tmp 195) rfl w.heap.size 0 rfl (cc (160, 0, (bigAt l 6 4 : Int), 0, 0)) rfl Try.info_cmd (cc_one _) _ _ B4.out (by simp) ?_)
    intro wz hz
    have BZ : Hid (Box wz w.heap.size 26 (cc (160, 0, (bigAt l 6 4 : Int), 0, 0))) := by rw [hz.out]; exact B4.out.all _ rfl
    have LZ : Hid (Later w wz) := by rw [hz.out]; exact LL.out.setCells (Nat.le_refl _) _ _
    clear hz e0 e1 e2 e3 e4
    go_wp2
    refine bodyPost_ret (results_cell_tmp rfl _ _ _ w.heap.size 0 rfl _ (.bool (decide ((16 : Int) ≤ (bigAt l 6 4 : Int)))) (load_cmd (c := (160, 0, (bigAt l 6 4 : Int), 0, 0)) BZ.out rfl) (by rfl)) rfl ⟨by rw [HR.out], LZ.out⟩
  | false =>
    replace HR : Hid (restS 160 l = lb false (160, 0, (bigAt l 6 4 : Int), 0, 0)) := by rw [Hid, HR.out, hb, Bool.false_and]
    have e0 := B6.out.cell 0
    have e1 := B6.out.cell 1
    have e2 := B6.out.cell 2
    have e3 := B6.out.cell 3
    have e4 := B6.out.cell 4
    go_wp2_with (refine wpList_storeU rfl 26 (.tmp 4) (.tmp 195) rfl w.heap.size 0 rfl (cc (160, 0, (bigAt l 6 4 : Int), 0, 0)) rfl Try.info_cmd (cc_one _) _ _ B4.out (by simp) ?_)
    intro wz hz
    have BZ : Hid (Box wz w.heap.size 26 (cc (160, 0, (bigAt l 6 4 : Int), 0, 0))) := by rw [hz.out]; exact B4.out.all _ rfl
    have LZ : Hid (Later w wz) := by rw [hz.out]; exact LL.out.setCells (Nat.le_refl _) _ _
    clear hz e0 e1 e2 e3 e4
    go_wp2
    refine bodyPost_ret (results_cell_tmp rfl _ _ _ w.heap.size 0 rfl _ (.bool false) (load_cmd (c := (160, 0, (bigAt l 6 4 : Int), 0, 0)) BZ.out rfl) (by rfl)) rfl ⟨by rw [HR.out], LZ.out⟩
set_option maxRecDepth 20000 in
set_option maxHeartbeats 1000000 in
theorem rrest_other (op : Int) {v : Value} (w : World) (l : List UInt8) (hop : op ≠ 3 ∧ op ≠ 18 ∧ op ≠ 21 ∧ op ≠ 85 ∧ op ≠ 26 ∧ op ≠ 90 ∧ op ≠ 27 ∧ op ≠ 30 ∧ op ≠ 37 ∧ op ≠ 158 ∧ op ≠ 160) : Calls Try.prog 24 #[.int .i64 op, v] w fun e w' => e = .returned (.tuple #[cval (restS op l).1, .bool (restS op l).2]) ∧ Later w w' := by
  have HR : Hid (restS op l = lb true (op, 0, 0, 0, 0)) := by
    obtain ⟨h1, h2, h3, h4, h5, h6, h7, h8, h9, h10, h11⟩ := hop
    simp [Hid, restS, h1, h2, h3, h4, h5, h6, h7, h8, h9, h10, h11]
  obtain ⟨h1, h2, h3, h4, h5, h6, h7, h8, h9, h10, h11⟩ := hop
  have B4 := hide (((Box.new w 26 #[.int .i64 0, .int .u64 0, .int .i64 0, .int .i64 0, .int .i64 0])).alloc (.cells #[.int .i64 op, .int .u64 0, .int .i64 0, .int .i64 0, .int .i64 0] 26))
  have B6 := hide (Box.new' (w.alloc (.cells #[.int .i64 0, .int .u64 0, .int .i64 0, .int .i64 0, .int .i64 0] 26)) 26 #[.int .i64 op, .int .u64 0, .int .i64 0, .int .i64 0, .int .i64 0] _ rfl (w.heap.size + 1) (by simp))
  have LL := hide (((Later.refl w).alloc (.cells #[.int .i64 0, .int .u64 0, .int .i64 0, .int .i64 0, .int .i64 0] 26)).alloc (.cells #[.int .i64 op, .int .u64 0, .int .i64 0, .int .i64 0, .int .i64 0] 26))
  go_enter Try.func24, Try.ntmps24
  have e0 := B6.out.cell 0
  have e1 := B6.out.cell 1
  have e2 := B6.out.cell 2
  have e3 := B6.out.cell 3
  have e4 := B6.out.cell 4
  go_wp2_with (refine wpList_storeU rfl 26 (.tmp 4) (.tmp 195) rfl w.heap.size 0 rfl (cc (op, 0, 0, 0, 0)) rfl Try.info_cmd (cc_one _) _ _ B4.out (by simp) ?_)
  intro wz hz
  have BZ : Hid (Box wz w.heap.size 26 (cc (op, 0, 0, 0, 0))) := by rw [hz.out]; exact B4.out.all _ rfl
  have LZ : Hid (Later w wz) := by rw [hz.out]; exact LL.out.setCells (Nat.le_refl _) _ _
  clear hz e0 e1 e2 e3 e4
  go_wp2
  refine bodyPost_ret (results_cell_tmp rfl _ _ _ w.heap.size 0 rfl _ (.bool true) (load_cmd (c := (op, 0, 0, 0, 0)) BZ.out rfl) (by rfl)) rfl ⟨by rw [HR.out], LZ.out⟩
end Go.Proofs.Ytccdgpadjfjoeaa
