import Derived.Test.YtbcikndebaeahaaMBB
import Derived.Test.YtbcikndebaeahaaMAA
namespace Go.Proofs.Ytbcikndebaeahaa
open Go.ChangeShapes Go.WideShapes Go.ChangeAt Go.RowKit
set_option linter.unusedVariables false
set_option maxRecDepth 4000
set_option linter.unusedSimpArgs false
/-! The landed mode: what comes behind a header. -/
def behR (l : List UInt8) (ten : Bool) : List UInt8 × Sns :=
  if l.length < hdN ten then ([], (5, 26, 0))
  else if hdM l ten ≠ 0 ∧ hdM l ten ≠ 8 then ([], (5, 38, 0))
  else if l.length < hdN ten + hdM l ten then ([], (5, 26, 0))
  else (l.drop (hdN ten + hdM l ten), (0, 0, 0))
theorem bigAt_ten (l : List UInt8) (h : 8 ≤ l.length) : bigAt l 6 2 = hdM l true := by
  have hh : holdsB l.length 6 2 = true := by simp [holdsB]; omega
  rw [bigAt, if_pos hh]
  show bigOf (seg l 6 2) = Bn l 7 + 256 * Bn l 6
  rw [seg_cons l 6 1 (by omega), seg_cons l 7 0 (by omega), seg_zero, Bn_get l 7 (by omega), Bn_get l 6 (by omega)]
  simp [bigOf]; omega
theorem bigAt_six (l : List UInt8) (h : 4 ≤ l.length) : bigAt l 3 1 = hdM l false := by
  have hh : holdsB l.length 3 1 = true := by simp [holdsB]; omega
  rw [bigAt, if_pos hh]
  show bigOf (seg l 3 1) = Bn l 3
  rw [seg_cons l 3 0 (by omega), seg_zero, Bn_get l 3 (by omega)]
  simp [bigOf]
set_option maxHeartbeats 2000000 in
theorem behind_true (v : Value) (l : List UInt8) (w : World) (h : Bs w v l) (hln : l.length ≤ 1000000) : Calls Try.prog 71 #[v, .bool true] w fun e w' => ∃ u, e = .returned (.tuple #[u, sval (behR l true).2]) ∧ Later w w' ∧ Bs w' u (behR l true).1 := by
  have HB := hide h
  obtain ⟨_, ad, cap, rfl, hcap, hd⟩ := h
  clear hd
  have BS : Hid (Box _ w.heap.size 30 (sc (0, 0, 0))) := Box.new w 30 #[.int .i64 0, .int .i64 0, .int .i64 0]
  have LL := hide ((Later.refl w).alloc (.cells #[.int .i64 0, .int .i64 0, .int .i64 0] 30))
  go_enter Try.func71, Try.ntmps71
  go_wp2_with fail
  generalize w.alloc (.cells #[.int .i64 0, .int .i64 0, .int .i64 0] 30) = w1 at *
  refine (headerSize_c true _).mono ?_
  rintro e w2 ⟨rfl, hw⟩
  have hw2 := hw.symm
  subst hw2
  clear hw
  by_cases h1 : l.length < 8
  · have HR : Hid (behR l true = ([], (5, 26, 0))) := by rw [Hid, behR, if_pos (show l.length < hdN true from h1)]
    go_wp2_with fail
    refine (con_Length _).mono ?_
    rintro e w2 ⟨rfl, hl⟩
    replace LL := hide (LL.out.trans hl)
    replace BS := hide (BS.out.later hl)
    clear hl
    go_wp2_with (refine wpList_storeU rfl 30 (.tmp 5) (.tmp 19) rfl w.heap.size 0 rfl (sc (5, 26, 0)) rfl Try.info_sense (sc_one _) _ _ BS.out (by simp) ?_)
    intro wz hz
    have BZ : Hid (Box wz w.heap.size 30 (sc (5, 26, 0))) := by rw [hz.out]; exact BS.out.all _ rfl
    have LZ : Hid (Later w wz) := by rw [hz.out]; exact LL.out.setCells (Nat.le_refl _) _ _
    clear hz
    go_wp2
    refine bodyPost_ret (results_tmp_cell' rfl _ _ _ w.heap.size 0 rfl _ _ (run_loadVar_mid _ _ _ _ (sc (5, 26, 0)) _ BZ.out.range Try.underlying30 rfl Try.info_sense) rfl) rfl ⟨_, by rw [HR.out], LZ.out, by rw [HR.out]; exact (Bs.nil _)⟩
  go_wp2_with fail
  refine (big_c 6 2 _ (HB.out.later LL.out)).mono ?_
  rintro e w2 ⟨rfl, hw⟩
  have hw2 := hw.symm
  subst hw2
  clear hw
  rw [bigAt_ten l (by omega)]
  replace HB := hide (HB.out.later LL.out)
  obtain ⟨M, hM⟩ : ∃ M, M = hdM l true := ⟨_, rfl⟩
  rw [← hM]
  have HM := hide hM
  clear hM
  by_cases hm0 : M = 0
  · subst hm0
    have HR : Hid (behR l true = (l.drop 8, (0, 0, 0))) := by rw [Hid, behR, if_neg (show ¬ l.length < hdN true from h1), if_neg (by rw [← HM.out]; simp), if_neg (by rw [← HM.out]; exact h1), ← HM.out]; rfl
    go_wp2_with (refine wpList_slice_lo Try.underlying36 Try.info1_u8 rfl (.tmp 45) (.tmp 46) rfl _ l.length (bv l) rfl HB.out.rw _ 8 rfl rfl (by omega) ?_)
    intro v5 h5
    have V5 : Hid (Bs w1 v5 (l.drop 8)) := by
      have := h5.out
      rw [bv_tail] at this
      exact this.bs.1
    clear h5
    go_wp2_with (refine wpList_storeU rfl 30 (.tmp 5) (.tmp 48) rfl w.heap.size 0 rfl (sc (0, 0, 0)) rfl Try.info_sense (sc_one _) _ _ BS.out (by simp) ?_)
    intro wz hz
    have BZ : Hid (Box wz w.heap.size 30 (sc (0, 0, 0))) := by rw [hz.out]; exact BS.out.all _ rfl
    have LZ : Hid (Later w wz) := by rw [hz.out]; exact LL.out.setCells (Nat.le_refl _) _ _
    have VZ := V5.out.setSns7 BS.out (sc (0, 0, 0)) 0
    rw [← hz.out] at VZ
    clear hz
    go_wp2
    refine bodyPost_ret (results_tmp_cell' rfl _ _ _ w.heap.size 0 rfl _ _ (run_loadVar_mid _ _ _ _ (sc (0, 0, 0)) _ BZ.out.range Try.underlying30 rfl Try.info_sense) rfl) rfl ⟨_, by rw [HR.out], LZ.out, by rw [HR.out]; exact VZ⟩
  by_cases hm8 : M = 8
  · subst hm8
    clear hm0
    by_cases h2 : l.length < 8 + 8
    · have HR : Hid (behR l true = ([], (5, 26, 0))) := by rw [Hid, behR, if_neg (show ¬ l.length < hdN true from h1), if_neg (by rw [← HM.out]; simp), if_pos (by rw [← HM.out]; exact h2)]
      go_wp2_with fail
      refine (con_Length _).mono ?_
      rintro e w2 ⟨rfl, hl⟩
      replace LL := hide (LL.out.trans hl)
      replace BS := hide (BS.out.later hl)
      clear hl
      go_wp2_with (refine wpList_storeU rfl 30 (.tmp 5) (.tmp 44) rfl w.heap.size 0 rfl (sc (5, 26, 0)) rfl Try.info_sense (sc_one _) _ _ BS.out (by simp) ?_)
      intro wz hz
      have BZ : Hid (Box wz w.heap.size 30 (sc (5, 26, 0))) := by rw [hz.out]; exact BS.out.all _ rfl
      have LZ : Hid (Later w wz) := by rw [hz.out]; exact LL.out.setCells (Nat.le_refl _) _ _
      clear hz
      go_wp2
      refine bodyPost_ret (results_tmp_cell' rfl _ _ _ w.heap.size 0 rfl _ _ (run_loadVar_mid _ _ _ _ (sc (5, 26, 0)) _ BZ.out.range Try.underlying30 rfl Try.info_sense) rfl) rfl ⟨_, by rw [HR.out], LZ.out, by rw [HR.out]; exact (Bs.nil _)⟩
    have HR : Hid (behR l true = (l.drop 16, (0, 0, 0))) := by rw [Hid, behR, if_neg (show ¬ l.length < hdN true from h1), if_neg (by rw [← HM.out]; simp), if_neg (by rw [← HM.out]; exact h2), ← HM.out]; rfl
    go_wp2_with (refine wpList_slice_lo Try.underlying36 Try.info1_u8 rfl (.tmp 45) (.tmp 46) rfl _ l.length (bv l) rfl HB.out.rw _ 16 rfl rfl (by omega) ?_)
    intro v5 h5
    have V5 : Hid (Bs w1 v5 (l.drop 16)) := by
      have := h5.out
      rw [bv_tail] at this
      exact this.bs.1
    clear h5
    go_wp2_with (refine wpList_storeU rfl 30 (.tmp 5) (.tmp 48) rfl w.heap.size 0 rfl (sc (0, 0, 0)) rfl Try.info_sense (sc_one _) _ _ BS.out (by simp) ?_)
    intro wz hz
    have BZ : Hid (Box wz w.heap.size 30 (sc (0, 0, 0))) := by rw [hz.out]; exact BS.out.all _ rfl
    have LZ : Hid (Later w wz) := by rw [hz.out]; exact LL.out.setCells (Nat.le_refl _) _ _
    have VZ := V5.out.setSns7 BS.out (sc (0, 0, 0)) 0
    rw [← hz.out] at VZ
    clear hz
    go_wp2
    refine bodyPost_ret (results_tmp_cell' rfl _ _ _ w.heap.size 0 rfl _ _ (run_loadVar_mid _ _ _ _ (sc (0, 0, 0)) _ BZ.out.range Try.underlying30 rfl Try.info_sense) rfl) rfl ⟨_, by rw [HR.out], LZ.out, by rw [HR.out]; exact VZ⟩
  have HR : Hid (behR l true = ([], (5, 38, 0))) := by rw [Hid, behR, if_neg (show ¬ l.length < hdN true from h1), if_pos (by rw [← HM.out]; exact ⟨hm0, hm8⟩)]
  have e0 : ((M : Int) != 0) = true := by simp; omega
  have e8 : ((M : Int) != 8) = true := by simp; omega
  clear hm0 hm8
  go_wp2_with fail
  refine (con_Parameter _).mono ?_
  rintro e w2 ⟨rfl, hl⟩
  replace LL := hide (LL.out.trans hl)
  replace BS := hide (BS.out.later hl)
  clear hl
  go_wp2_with (refine wpList_storeU rfl 30 (.tmp 5) (.tmp 35) rfl w.heap.size 0 rfl (sc (5, 38, 0)) rfl Try.info_sense (sc_one _) _ _ BS.out (by simp) ?_)
  intro wz hz
  have BZ : Hid (Box wz w.heap.size 30 (sc (5, 38, 0))) := by rw [hz.out]; exact BS.out.all _ rfl
  have LZ : Hid (Later w wz) := by rw [hz.out]; exact LL.out.setCells (Nat.le_refl _) _ _
  clear hz
  go_wp2
  refine bodyPost_ret (results_tmp_cell' rfl _ _ _ w.heap.size 0 rfl _ _ (run_loadVar_mid _ _ _ _ (sc (5, 38, 0)) _ BZ.out.range Try.underlying30 rfl Try.info_sense) rfl) rfl ⟨_, by rw [HR.out], LZ.out, by rw [HR.out]; exact (Bs.nil _)⟩
set_option maxHeartbeats 2000000 in
theorem behind_false (v : Value) (l : List UInt8) (w : World) (h : Bs w v l) (hln : l.length ≤ 1000000) : Calls Try.prog 71 #[v, .bool false] w fun e w' => ∃ u, e = .returned (.tuple #[u, sval (behR l false).2]) ∧ Later w w' ∧ Bs w' u (behR l false).1 := by
  have HB := hide h
  obtain ⟨_, ad, cap, rfl, hcap, hd⟩ := h
  clear hd
  have BS : Hid (Box _ w.heap.size 30 (sc (0, 0, 0))) := Box.new w 30 #[.int .i64 0, .int .i64 0, .int .i64 0]
  have LL := hide ((Later.refl w).alloc (.cells #[.int .i64 0, .int .i64 0, .int .i64 0] 30))
  go_enter Try.func71, Try.ntmps71
  go_wp2_with fail
  generalize w.alloc (.cells #[.int .i64 0, .int .i64 0, .int .i64 0] 30) = w1 at *
  refine (headerSize_c false _).mono ?_
  rintro e w2 ⟨rfl, hw⟩
  have hw2 := hw.symm
  subst hw2
  clear hw
  by_cases h1 : l.length < 4
  · have HR : Hid (behR l false = ([], (5, 26, 0))) := by rw [Hid, behR, if_pos (show l.length < hdN false from h1)]
    go_wp2_with fail
    refine (con_Length _).mono ?_
    rintro e w2 ⟨rfl, hl⟩
    replace LL := hide (LL.out.trans hl)
    replace BS := hide (BS.out.later hl)
    clear hl
    go_wp2_with (refine wpList_storeU rfl 30 (.tmp 5) (.tmp 19) rfl w.heap.size 0 rfl (sc (5, 26, 0)) rfl Try.info_sense (sc_one _) _ _ BS.out (by simp) ?_)
    intro wz hz
    have BZ : Hid (Box wz w.heap.size 30 (sc (5, 26, 0))) := by rw [hz.out]; exact BS.out.all _ rfl
    have LZ : Hid (Later w wz) := by rw [hz.out]; exact LL.out.setCells (Nat.le_refl _) _ _
    clear hz
    go_wp2
    refine bodyPost_ret (results_tmp_cell' rfl _ _ _ w.heap.size 0 rfl _ _ (run_loadVar_mid _ _ _ _ (sc (5, 26, 0)) _ BZ.out.range Try.underlying30 rfl Try.info_sense) rfl) rfl ⟨_, by rw [HR.out], LZ.out, by rw [HR.out]; exact (Bs.nil _)⟩
  go_wp2_with fail
  refine (big_c 3 1 _ (HB.out.later LL.out)).mono ?_
  rintro e w2 ⟨rfl, hw⟩
  have hw2 := hw.symm
  subst hw2
  clear hw
  rw [bigAt_six l (by omega)]
  replace HB := hide (HB.out.later LL.out)
  obtain ⟨M, hM⟩ : ∃ M, M = hdM l false := ⟨_, rfl⟩
  rw [← hM]
  have HM := hide hM
  clear hM
  by_cases hm0 : M = 0
  · subst hm0
    have HR : Hid (behR l false = (l.drop 4, (0, 0, 0))) := by rw [Hid, behR, if_neg (show ¬ l.length < hdN false from h1), if_neg (by rw [← HM.out]; simp), if_neg (by rw [← HM.out]; exact h1), ← HM.out]; rfl
    go_wp2_with (refine wpList_slice_lo Try.underlying36 Try.info1_u8 rfl (.tmp 45) (.tmp 46) rfl _ l.length (bv l) rfl HB.out.rw _ 4 rfl rfl (by omega) ?_)
    intro v5 h5
    have V5 : Hid (Bs w1 v5 (l.drop 4)) := by
      have := h5.out
      rw [bv_tail] at this
      exact this.bs.1
    clear h5
    go_wp2_with (refine wpList_storeU rfl 30 (.tmp 5) (.tmp 48) rfl w.heap.size 0 rfl (sc (0, 0, 0)) rfl Try.info_sense (sc_one _) _ _ BS.out (by simp) ?_)
    intro wz hz
    have BZ : Hid (Box wz w.heap.size 30 (sc (0, 0, 0))) := by rw [hz.out]; exact BS.out.all _ rfl
    have LZ : Hid (Later w wz) := by rw [hz.out]; exact LL.out.setCells (Nat.le_refl _) _ _
    have VZ := V5.out.setSns7 BS.out (sc (0, 0, 0)) 0
    rw [← hz.out] at VZ
    clear hz
    go_wp2
    refine bodyPost_ret (results_tmp_cell' rfl _ _ _ w.heap.size 0 rfl _ _ (run_loadVar_mid _ _ _ _ (sc (0, 0, 0)) _ BZ.out.range Try.underlying30 rfl Try.info_sense) rfl) rfl ⟨_, by rw [HR.out], LZ.out, by rw [HR.out]; exact VZ⟩
  by_cases hm8 : M = 8
  · subst hm8
    clear hm0
    by_cases h2 : l.length < 4 + 8
    · have HR : Hid (behR l false = ([], (5, 26, 0))) := by rw [Hid, behR, if_neg (show ¬ l.length < hdN false from h1), if_neg (by rw [← HM.out]; simp), if_pos (by rw [← HM.out]; exact h2)]
      go_wp2_with fail
      refine (con_Length _).mono ?_
      rintro e w2 ⟨rfl, hl⟩
      replace LL := hide (LL.out.trans hl)
      replace BS := hide (BS.out.later hl)
      clear hl
      go_wp2_with (refine wpList_storeU rfl 30 (.tmp 5) (.tmp 44) rfl w.heap.size 0 rfl (sc (5, 26, 0)) rfl Try.info_sense (sc_one _) _ _ BS.out (by simp) ?_)
      intro wz hz
      have BZ : Hid (Box wz w.heap.size 30 (sc (5, 26, 0))) := by rw [hz.out]; exact BS.out.all _ rfl
      have LZ : Hid (Later w wz) := by rw [hz.out]; exact LL.out.setCells (Nat.le_refl _) _ _
      clear hz
      go_wp2
      refine bodyPost_ret (results_tmp_cell' rfl _ _ _ w.heap.size 0 rfl _ _ (run_loadVar_mid _ _ _ _ (sc (5, 26, 0)) _ BZ.out.range Try.underlying30 rfl Try.info_sense) rfl) rfl ⟨_, by rw [HR.out], LZ.out, by rw [HR.out]; exact (Bs.nil _)⟩
    have HR : Hid (behR l false = (l.drop 12, (0, 0, 0))) := by rw [Hid, behR, if_neg (show ¬ l.length < hdN false from h1), if_neg (by rw [← HM.out]; simp), if_neg (by rw [← HM.out]; exact h2), ← HM.out]; rfl
    go_wp2_with (refine wpList_slice_lo Try.underlying36 Try.info1_u8 rfl (.tmp 45) (.tmp 46) rfl _ l.length (bv l) rfl HB.out.rw _ 12 rfl rfl (by omega) ?_)
    intro v5 h5
    have V5 : Hid (Bs w1 v5 (l.drop 12)) := by
      have := h5.out
      rw [bv_tail] at this
      exact this.bs.1
    clear h5
    go_wp2_with (refine wpList_storeU rfl 30 (.tmp 5) (.tmp 48) rfl w.heap.size 0 rfl (sc (0, 0, 0)) rfl Try.info_sense (sc_one _) _ _ BS.out (by simp) ?_)
    intro wz hz
    have BZ : Hid (Box wz w.heap.size 30 (sc (0, 0, 0))) := by rw [hz.out]; exact BS.out.all _ rfl
    have LZ : Hid (Later w wz) := by rw [hz.out]; exact LL.out.setCells (Nat.le_refl _) _ _
    have VZ := V5.out.setSns7 BS.out (sc (0, 0, 0)) 0
    rw [← hz.out] at VZ
    clear hz
    go_wp2
    refine bodyPost_ret (results_tmp_cell' rfl _ _ _ w.heap.size 0 rfl _ _ (run_loadVar_mid _ _ _ _ (sc (0, 0, 0)) _ BZ.out.range Try.underlying30 rfl Try.info_sense) rfl) rfl ⟨_, by rw [HR.out], LZ.out, by rw [HR.out]; exact VZ⟩
  have HR : Hid (behR l false = ([], (5, 38, 0))) := by rw [Hid, behR, if_neg (show ¬ l.length < hdN false from h1), if_pos (by rw [← HM.out]; exact ⟨hm0, hm8⟩)]
  have e0 : ((M : Int) != 0) = true := by simp; omega
  have e8 : ((M : Int) != 8) = true := by simp; omega
  clear hm0 hm8
  go_wp2_with fail
  refine (con_Parameter _).mono ?_
  rintro e w2 ⟨rfl, hl⟩
  replace LL := hide (LL.out.trans hl)
  replace BS := hide (BS.out.later hl)
  clear hl
  go_wp2_with (refine wpList_storeU rfl 30 (.tmp 5) (.tmp 35) rfl w.heap.size 0 rfl (sc (5, 38, 0)) rfl Try.info_sense (sc_one _) _ _ BS.out (by simp) ?_)
  intro wz hz
  have BZ : Hid (Box wz w.heap.size 30 (sc (5, 38, 0))) := by rw [hz.out]; exact BS.out.all _ rfl
  have LZ : Hid (Later w wz) := by rw [hz.out]; exact LL.out.setCells (Nat.le_refl _) _ _
  clear hz
  go_wp2
  refine bodyPost_ret (results_tmp_cell' rfl _ _ _ w.heap.size 0 rfl _ _ (run_loadVar_mid _ _ _ _ (sc (5, 38, 0)) _ BZ.out.range Try.underlying30 rfl Try.info_sense) rfl) rfl ⟨_, by rw [HR.out], LZ.out, by rw [HR.out]; exact (Bs.nil _)⟩
theorem behind_c (v : Value) (l : List UInt8) (ten : Bool) (w : World) (h : Bs w v l) (hln : l.length ≤ 1000000) : Calls Try.prog 71 #[v, .bool ten] w fun e w' => ∃ u, e = .returned (.tuple #[u, sval (behR l ten).2]) ∧ Later w w' ∧ Bs w' u (behR l ten).1 := by
  cases ten with
  | true => exact behind_true v l w h hln
  | false => exact behind_false v l w h hln
end Go.Proofs.Ytbcikndebaeahaa

namespace Go.Proofs.Ytbcikndebaeahaa
open Go.ChangeShapes Go.WideShapes Go.ChangeAt Go.RowKit
set_option linter.unusedVariables false
set_option maxRecDepth 4000
set_option linter.unusedSimpArgs false
/-! The landed mode: one page of parameters. -/
def stepR (l : List UInt8) (c : Bool) : Bool × List UInt8 × Sns :=
  if l.length < 2 ∨ l.length < 2 + Bn l 1 then (false, [], (5, 26, 0))
  else if l.take (2 + Bn l 1) = pg8 true then (true, l.drop (2 + Bn l 1), (0, 0, 0))
  else if l.take (2 + Bn l 1) = pg8 false then (false, l.drop (2 + Bn l 1), (0, 0, 0))
  else if l.take (2 + Bn l 1) = pg28 then (c, l.drop (2 + Bn l 1), (0, 0, 0))
  else (false, [], (5, 38, 0))
/-- three results, the third one in a variable of its own -/
theorem results_ttc8 {fn : Func} {p q r : Tmp} {ty : TypeId} (h : fn.results = #[.tmp p, .tmp q, .cell r ty]) (tmps : Array Value) (P : Program) (w : World) (b o : Nat) (hr : tmps.getD r undef = .pointer (some ⟨b, o, none⟩)) (v u t : Value) (hl : (loadVar ty ⟨b, o, none⟩).run P w = .ok v w) (hp : tmps.getD p undef = u) (hq : tmps.getD q undef = t) :
    (results fn tmps).run P w = .ok (.tuple #[u, t, v]) w := by
  have ha : (asAddr (tmps.getD r undef)).run P w = .ok ⟨b, o, none⟩ w := by rw [hr]; rfl
  simp only [results, h]
  simp only [List.mapM_toArray, Sem.run_bind]
  simp [ha, hl, hp, hq, -Array.getD_eq_getD_getElem?]
/-- 's[:h]' in a region that draws its order -/
theorem wpT_slice_hi {P : Program} {ops : Array Oper} {Q : Exit → Act → World → Prop} {τ σ : List Nat} {i : Nat} {o : Oper} {μ : List Nat} {a : Act} {b : World} {T e : TypeId} {sz : Nat} (ht : P.underlying T = some (.slice e)) (hs : (P.info? e).map (·.size) = some sz)
    (hoi : ops[i]? = some o) (hw : Region.wanted o (yielded ops a.tmps) = true) (x hi : Operand) (ho : o.op = .slice T x none (some hi) none) (ad : Option Addr) (n cap : Nat) (hx : a.eval x = .slice ad n cap) (kd : IntKind) (u : Nat) (hhi : a.eval hi = .int kd (u : Int)) (hu : u ≤ n) (hc : n ≤ cap)
    (h : wpT P ops Q τ σ μ (a.put o.dst (Go.sliced ad 0 u cap sz)) b) : wpT P ops Q τ σ (i :: μ) a b := by
  refine ⟨o, hoi, ?_⟩
  rw [if_pos hw]
  refine ⟨Go.sliced ad 0 u cap sz, fun w _ => ?_, h⟩
  have hrun : (Instr.sliceAt T (.slice ad n cap) none (some (.int kd (u : Int))) none).run P w = .ok (Go.sliced ad 0 u cap sz) w := by
    rw [run_sliceAt_slice w T _ _ _ _ (elem_of ht), run_slice_h w T ad n cap (elem_of ht) kd _ (by omega) (by omega), elem_is ht, run_size hs]
    simp [Result.andThen]
  unfold execOp
  simp [ho, hx, hhi, hrun, Result.andThen, Oper.mildUpon]
set_option maxHeartbeats 2000000 in
theorem step_c (v : Value) (l : List UInt8) (c : Bool) (w : World) (h : Bs w v l) (hln : l.length ≤ 1000000) : Calls Try.prog 72 #[v, .bool c] w fun e w' => ∃ u, e = .returned (.tuple #[.bool (stepR l c).1, u, sval (stepR l c).2.2]) ∧ Later w w' ∧ Bs w' u (stepR l c).2.1 := by
  have HB := hide h
  obtain ⟨n, hn⟩ : ∃ n, l.length = n := ⟨_, rfl⟩
  obtain ⟨_, ad, cap, rfl, hcap, hd⟩ := h
  clear hd
  rw [hn] at HB hln hcap ⊢
  have HN := hide hn
  clear hn
  have BS : Hid (Box _ w.heap.size 30 (sc (0, 0, 0))) := Box.new w 30 #[.int .i64 0, .int .i64 0, .int .i64 0]
  have LL := hide ((Later.refl w).alloc (.cells #[.int .i64 0, .int .i64 0, .int .i64 0] 30))
  go_enter Try.func72, Try.ntmps72
  by_cases h2 : n < 2
  · have HR : Hid (stepR l c = (false, [], (5, 26, 0))) := by rw [Hid, stepR, if_pos (.inl (by rw [HN.out]; exact h2))]
    go_wp2_with fail
    refine (con_Length _).mono ?_
    rintro e w9 ⟨rfl, hl⟩
    replace LL := hide (LL.out.trans hl)
    replace BS := hide (BS.out.later hl)
    clear hl
    go_wp2_with (refine wpList_storeU rfl 30 (.tmp 6) (.tmp 23) rfl w.heap.size 0 rfl (sc (5, 26, 0)) rfl Try.info_sense (sc_one _) _ _ BS.out (by simp) ?_)
    intro wz hz
    have BZ : Hid (Box wz w.heap.size 30 (sc (5, 26, 0))) := by rw [hz.out]; exact BS.out.all _ rfl
    have LZ : Hid (Later w wz) := by rw [hz.out]; exact LL.out.setCells (Nat.le_refl _) _ _
    clear hz
    go_wp2
    refine bodyPost_ret (results_ttc8 rfl _ _ _ w.heap.size 0 rfl _ _ _ (run_loadVar_mid _ _ _ _ (sc (5, 26, 0)) _ BZ.out.range Try.underlying30 rfl Try.info_sense) rfl rfl) rfl ⟨_, by rw [HR.out]; rfl, LZ.out, by rw [HR.out]; exact (Bs.nil _)⟩
  obtain ⟨b, off, cap', e, hc⟩ := HB.out.cells6 HN.out (by omega)
  simp at e
  obtain ⟨rfl, rfl⟩ := e
  have c1 := hc 1 (by omega) _ LL.out
  clear hc
  have b1 := Bn_lt l 1
  obtain ⟨m, hm⟩ : ∃ m, Bn l 1 = m := ⟨_, rfl⟩
  rw [hm] at c1 b1
  have HM := hide hm
  clear hm
  by_cases h3 : n < 2 + m
  · have HR : Hid (stepR l c = (false, [], (5, 26, 0))) := by rw [Hid, stepR, if_pos (.inr (by rw [HN.out, HM.out]; exact h3))]
    go_wp2_with fail
    refine (con_Length _).mono ?_
    rintro e w9 ⟨rfl, hl⟩
    replace LL := hide (LL.out.trans hl)
    replace BS := hide (BS.out.later hl)
    clear hl
    go_wp2_with (refine wpList_storeU rfl 30 (.tmp 6) (.tmp 23) rfl w.heap.size 0 rfl (sc (5, 26, 0)) rfl Try.info_sense (sc_one _) _ _ BS.out (by simp) ?_)
    intro wz hz
    have BZ : Hid (Box wz w.heap.size 30 (sc (5, 26, 0))) := by rw [hz.out]; exact BS.out.all _ rfl
    have LZ : Hid (Later w wz) := by rw [hz.out]; exact LL.out.setCells (Nat.le_refl _) _ _
    clear hz
    go_wp2
    refine bodyPost_ret (results_ttc8 rfl _ _ _ w.heap.size 0 rfl _ _ _ (run_loadVar_mid _ _ _ _ (sc (5, 26, 0)) _ BZ.out.range Try.underlying30 rfl Try.info_sense) rfl rfl) rfl ⟨_, by rw [HR.out]; rfl, LZ.out, by rw [HR.out]; exact (Bs.nil _)⟩
  have HS : Hid (stepR l c = if l.take (2 + m) = pg8 true then (true, l.drop (2 + m), (0, 0, 0)) else if l.take (2 + m) = pg8 false then (false, l.drop (2 + m), (0, 0, 0)) else if l.take (2 + m) = pg28 then (c, l.drop (2 + m), (0, 0, 0)) else (false, [], (5, 38, 0))) := by
    rw [Hid, stepR, if_neg (by rw [HN.out, HM.out]; omega), HM.out]
  go_wp2_with fail
  generalize w.alloc (.cells #[.int .i64 0, .int .i64 0, .int .i64 0] 30) = w1 at *
  clear c1
  refine wp_region_tree [0, 1, 2, 3, 4, 5, 6, 7] [] [] (by kernel_rfl) (by kernel_rfl) (by kernel_rfl) (by kernel_rfl) ?_
  iterate 2 (refine wpT_mild rfl (fun K hK => ?_); go_simp; refine hK _ ?_; clear hK K)
  refine wpT_slice_hi Try.underlying36 Try.info1_u8 rfl (by kernel_rfl) (.tmp 29) (.tmp 30) rfl _ n cap rfl .i64 (2 + m) rfl (by omega) hcap ?_
  iterate 2 (refine wpT_mild rfl (fun K hK => ?_); go_simp; refine hK _ ?_; clear hK K)
  refine wpT_slice_lo Try.underlying36 Try.info1_u8 rfl (by kernel_rfl) (.tmp 32) (.tmp 33) rfl _ n cap rfl .i64 (2 + m) rfl (by omega) ?_
  have HB1 := (HB.out.later LL.out).rw
  rw [HN.out] at HB1
  have VP : Hid (Bs w1 (.slice (some ⟨b, off, none⟩) (2 + m) cap) (l.take (2 + m))) := (HB.out.later LL.out).cut7 (2 + m) (by omega)
  have VR : Hid (Bs w1 (Go.sliced (some ⟨b, off, none⟩) (2 + m) n cap 1) (l.drop (2 + m))) := by
    have := HB1.sliced (2 + m) n (by omega) (Nat.le_refl _)
    simp only [Nat.mul_one] at this
    rw [← HN.out, bv_tail] at this
    have e := this.bs.1
    rwa [HN.out] at e
  clear HB1
  generalize Go.sliced (some ⟨b, off, none⟩) (2 + m) n cap 1 = vr at *
  iterate 2 (refine wpT_mild rfl (fun K hK => ?_); go_simp; refine hK _ ?_; clear hK K)
  refine wpT_done (fun w2 hl => wpL_nil ?_)
  have hl' : Later w1 w2 := (Later.refl w1).drew.trans hl
  replace LL := hide (LL.out.trans hl')
  replace BS := hide (BS.out.later hl')
  replace VP := hide (VP.out.later hl')
  replace VR := hide (VR.out.later hl')
  clear hl hl'
  generalize l.take (2 + m) = P at *
  generalize l.drop (2 + m) = R at *
  have HS2 := HS.out
  clear HS
  go_wp2_with fail
  refine (cachingPage_c true _).mono ?_
  rintro e w9 ⟨g, rfl, hl, _, hB⟩
  replace LL := hide (LL.out.trans hl)
  replace BS := hide (BS.out.later hl)
  replace VP := hide (VP.out.later hl)
  replace VR := hide (VR.out.later hl)
  have VC := hide (bs_of_box hB rfl rfl (by decide))
  clear hl hB
  go_wp2_with fail
  refine (beqb_c _ VP.out VC.out).mono ?_
  rintro e w10 ⟨rfl, hw⟩
  have hw2 := hw.symm
  subst hw2
  clear hw VC
  cases hq : (P == pg8 true) with
  | true =>
    have HR : Hid (stepR l c = (true, R, (0, 0, 0))) := by rw [Hid, HS2, if_pos (by simpa using hq)]
    clear hq HS2
    go_wp2_with (refine wpList_storeU rfl 30 (.tmp 6) (.tmp 41) rfl w.heap.size 0 rfl (sc (0, 0, 0)) rfl Try.info_sense (sc_one _) _ _ BS.out (by simp) ?_)
    intro wz hz
    have BZ : Hid (Box wz w.heap.size 30 (sc (0, 0, 0))) := by rw [hz.out]; exact BS.out.all _ rfl
    have LZ : Hid (Later w wz) := by rw [hz.out]; exact LL.out.setCells (Nat.le_refl _) _ _
    have VZ := VR.out.setSns7 BS.out (sc (0, 0, 0)) 0
    rw [← hz.out] at VZ
    clear hz
    go_wp2
    refine bodyPost_ret (results_ttc8 rfl _ _ _ w.heap.size 0 rfl _ _ _ (run_loadVar_mid _ _ _ _ (sc (0, 0, 0)) _ BZ.out.range Try.underlying30 rfl Try.info_sense) rfl rfl) rfl ⟨_, by rw [HR.out]; rfl, LZ.out, by rw [HR.out]; exact VZ⟩
  | false =>
  have hq1 : ¬ P = pg8 true := by simpa using hq
  rw [if_neg hq1] at HS2
  clear hq hq1
  have HS3 := hide HS2
  clear HS2
  go_wp2_with fail
  refine (cachingPage_c false _).mono ?_
  rintro e w9 ⟨g, rfl, hl, _, hB⟩
  replace LL := hide (LL.out.trans hl)
  replace BS := hide (BS.out.later hl)
  replace VP := hide (VP.out.later hl)
  replace VR := hide (VR.out.later hl)
  have VC := hide (bs_of_box hB rfl rfl (by decide))
  clear hl hB
  go_wp2_with fail
  refine (beqb_c _ VP.out VC.out).mono ?_
  rintro e w10 ⟨rfl, hw⟩
  have hw2 := hw.symm
  subst hw2
  clear hw VC
  cases hq : (P == pg8 false) with
  | true =>
    have HR : Hid (stepR l c = (false, R, (0, 0, 0))) := by rw [Hid, HS3.out, if_pos (by simpa using hq)]
    clear hq HS3
    go_wp2_with (refine wpList_storeU rfl 30 (.tmp 6) (.tmp 47) rfl w.heap.size 0 rfl (sc (0, 0, 0)) rfl Try.info_sense (sc_one _) _ _ BS.out (by simp) ?_)
    intro wz hz
    have BZ : Hid (Box wz w.heap.size 30 (sc (0, 0, 0))) := by rw [hz.out]; exact BS.out.all _ rfl
    have LZ : Hid (Later w wz) := by rw [hz.out]; exact LL.out.setCells (Nat.le_refl _) _ _
    have VZ := VR.out.setSns7 BS.out (sc (0, 0, 0)) 0
    rw [← hz.out] at VZ
    clear hz
    go_wp2
    refine bodyPost_ret (results_ttc8 rfl _ _ _ w.heap.size 0 rfl _ _ _ (run_loadVar_mid _ _ _ _ (sc (0, 0, 0)) _ BZ.out.range Try.underlying30 rfl Try.info_sense) rfl rfl) rfl ⟨_, by rw [HR.out]; rfl, LZ.out, by rw [HR.out]; exact VZ⟩
  | false =>
  have HS4 : Hid (stepR l c = if P = pg28 then (c, R, (0, 0, 0)) else (false, [], (5, 38, 0))) := by rw [Hid, HS3.out, if_neg (by simpa using hq)]
  clear hq HS3
  go_wp2_with fail
  refine (excPage_c _).mono ?_
  rintro e w9 ⟨g, rfl, hl, _, hB⟩
  replace LL := hide (LL.out.trans hl)
  replace BS := hide (BS.out.later hl)
  replace VP := hide (VP.out.later hl)
  replace VR := hide (VR.out.later hl)
  have VC := hide (bs_of_box hB rfl rfl (by decide))
  clear hl hB
  go_wp2_with fail
  refine (beqb_c _ VP.out VC.out).mono ?_
  rintro e w10 ⟨rfl, hw⟩
  have hw2 := hw.symm
  subst hw2
  clear hw VC
  cases hq : (P == pg28) with
  | true =>
    have HR : Hid (stepR l c = (c, R, (0, 0, 0))) := by rw [Hid, HS4.out, if_pos (by simpa using hq)]
    clear hq HS4
    go_wp2_with (refine wpList_storeU rfl 30 (.tmp 6) (.tmp 54) rfl w.heap.size 0 rfl (sc (0, 0, 0)) rfl Try.info_sense (sc_one _) _ _ BS.out (by simp) ?_)
    intro wz hz
    have BZ : Hid (Box wz w.heap.size 30 (sc (0, 0, 0))) := by rw [hz.out]; exact BS.out.all _ rfl
    have LZ : Hid (Later w wz) := by rw [hz.out]; exact LL.out.setCells (Nat.le_refl _) _ _
    have VZ := VR.out.setSns7 BS.out (sc (0, 0, 0)) 0
    rw [← hz.out] at VZ
    clear hz
    go_wp2
    refine bodyPost_ret (results_ttc8 rfl _ _ _ w.heap.size 0 rfl _ _ _ (run_loadVar_mid _ _ _ _ (sc (0, 0, 0)) _ BZ.out.range Try.underlying30 rfl Try.info_sense) rfl rfl) rfl ⟨_, by rw [HR.out]; rfl, LZ.out, by rw [HR.out]; exact VZ⟩
  | false =>
  have HR : Hid (stepR l c = (false, [], (5, 38, 0))) := by rw [Hid, HS4.out, if_neg (by simpa using hq)]
  clear hq HS4
  go_wp2_with fail
  refine (con_Parameter _).mono ?_
  rintro e w9 ⟨rfl, hl⟩
  replace LL := hide (LL.out.trans hl)
  replace BS := hide (BS.out.later hl)
  clear hl
  go_wp2_with (refine wpList_storeU rfl 30 (.tmp 6) (.tmp 35) rfl w.heap.size 0 rfl (sc (5, 38, 0)) rfl Try.info_sense (sc_one _) _ _ BS.out (by simp) ?_)
  intro wz hz
  have BZ : Hid (Box wz w.heap.size 30 (sc (5, 38, 0))) := by rw [hz.out]; exact BS.out.all _ rfl
  have LZ : Hid (Later w wz) := by rw [hz.out]; exact LL.out.setCells (Nat.le_refl _) _ _
  clear hz
  go_wp2
  refine bodyPost_ret (results_ttc8 rfl _ _ _ w.heap.size 0 rfl _ _ _ (run_loadVar_mid _ _ _ _ (sc (5, 38, 0)) _ BZ.out.range Try.underlying30 rfl Try.info_sense) rfl rfl) rfl ⟨_, by rw [HR.out]; rfl, LZ.out, by rw [HR.out]; exact (Bs.nil _)⟩
end Go.Proofs.Ytbcikndebaeahaa

namespace Go.Proofs.Ytbcikndebaeahaa
open Go.ChangeShapes Go.WideShapes Go.ChangeAt Go.RowKit
set_option linter.unusedVariables false
set_option maxRecDepth 4000
set_option linter.unusedSimpArgs false
/-! The landed mode: Select. -/
def three8 (s : Sns) : Prop := s = (0, 0, 0) ∨ s = (5, 26, 0) ∨ s = (5, 38, 0)
theorem three8.ok {s : Sns} (h : three8 s) : OkS s := by
  rcases h with rfl | rfl | rfl <;> (unfold OkS; simp)
def selG (s : Sns) (R : List UInt8) (c : Bool) : Bool × Sns := if s = (0, 0, 0) then selF R c else (false, s)
def slLen8 (v : Value) : Nat := match v with | .slice _ n _ => n | _ => 0
theorem Bs.sl8 {w : World} {v : Value} {l : List UInt8} (h : Bs w v l) : ∃ a c, v = .slice a l.length c ∧ slLen8 v = l.length := by
  obtain ⟨_, a, c, rfl, _⟩ := h
  exact ⟨a, c, rfl, rfl⟩
theorem behR_three (l : List UInt8) (ten : Bool) : three8 (behR l ten).2 ∧ (behR l ten).1.length ≤ l.length := by
  unfold behR three8
  split
  · simp
  split
  · simp
  split
  · simp
  · simp
theorem stepR_three (l : List UInt8) (c : Bool) : three8 (stepR l c).2.2 ∧ (stepR l c).2.1.length ≤ l.length - 2 := by
  unfold stepR three8
  split
  · simp
  split
  · exact ⟨.inl rfl, by simp only [List.length_drop]; omega⟩
  split
  · exact ⟨.inl rfl, by simp only [List.length_drop]; omega⟩
  split
  · exact ⟨.inl rfl, by simp only [List.length_drop]; omega⟩
  · simp
theorem selR_beh (l : List UInt8) (ten c : Bool) (h : l.length ≠ 0) : selR l ten c = selG (behR l ten).2 (behR l ten).1 c := by
  unfold selR behR selG
  rw [if_neg h]
  split
  · rfl
  split
  · rfl
  split
  · rfl
  · rfl
theorem selF_stepR (l : List UInt8) (c : Bool) (h : 0 < l.length) : selF l c = selG (stepR l c).2.2 (stepR l c).2.1 (stepR l c).1 := by
  rw [selF_step l c h]
  unfold stepR selG
  split
  · rfl
  split
  · rfl
  split
  · rfl
  split
  · rfl
  · rfl
def SelV (w : World) (g : Nat) (s : Sns) (W : World) : Prop := Later w W ∧ Box W w.heap.size 30 (sc (0, 0, 0)) ∧ Box W g 30 (sc s) ∧ w.heap.size < g
theorem SelV.later {w : World} {g : Nat} {s : Sns} {W W' : World} (h : SelV w g s W) (hl : Later W W') : SelV w g s W' := ⟨h.1.trans hl, h.2.1.later hl, h.2.2.1.later hl, h.2.2.2⟩
set_option maxRecDepth 20000 in
set_option maxHeartbeats 4000000 in
theorem mselect_c : ISel8 := by
  intro v l ten caching w h hln
  have HB := hide h
  obtain ⟨n, hn⟩ : ∃ n, l.length = n := ⟨_, rfl⟩
  obtain ⟨_, ad, cap, rfl, hcap, hd⟩ := h
  clear hd
  rw [hn] at HB hln hcap ⊢
  have HN := hide hn
  clear hn
  have BR : Hid (Box _ w.heap.size 30 (sc (0, 0, 0))) := Box.new w 30 #[.int .i64 0, .int .i64 0, .int .i64 0]
  have LL := hide ((Later.refl w).alloc (.cells #[.int .i64 0, .int .i64 0, .int .i64 0] 30))
  go_enter Try.func60, Try.ntmps60
  by_cases h0 : n = 0
  · subst h0
    have HR : Hid (selR l ten caching = (caching, (0, 0, 0))) := by rw [Hid, selR, if_pos HN.out]
    go_wp2_with (refine wpList_storeU rfl 30 (.tmp 7) (.tmp 14) rfl w.heap.size 0 rfl (sc (0, 0, 0)) rfl Try.info_sense (sc_one _) _ _ BR.out (by simp) ?_)
    intro wz hz
    have BZ : Hid (Box wz w.heap.size 30 (sc (0, 0, 0))) := by rw [hz.out]; exact BR.out.all _ rfl
    have LZ : Hid (Later w wz) := by rw [hz.out]; exact LL.out.setCells (Nat.le_refl _) _ _
    clear hz
    go_wp2
    refine bodyPost_ret (results_tmp_cell' rfl _ _ _ w.heap.size 0 rfl _ _ (run_loadVar_mid _ _ _ _ (sc (0, 0, 0)) _ BZ.out.range Try.underlying30 rfl Try.info_sense) rfl) rfl ⟨by rw [HR.out]; rfl, LZ.out⟩
  go_wp2_with fail
  generalize w.alloc (.cells #[.int .i64 0, .int .i64 0, .int .i64 0] 30) = w1 at *
  refine (behind_c _ l ten _ (HB.out.later LL.out) (by rw [HN.out]; exact hln)).mono ?_
  rintro e w2 ⟨u, rfl, hl, hu⟩
  replace LL := hide (LL.out.trans hl)
  replace BR := hide (BR.out.later hl)
  have VB := hide hu
  clear hl hu
  have HA : Hid (selR l ten caching = selG (behR l ten).2 (behR l ten).1 caching) := selR_beh l ten caching (by rw [HN.out]; exact h0)
  have H3 := (behR_three l ten).1
  have H4 := (behR_three l ten).2
  rw [HN.out] at H4
  generalize (behR l ten).2 = s at *
  generalize (behR l ten).1 = R at *
  go_wp2_with (refine wpList_newAS rfl rfl rfl rfl 9 8 rfl rfl (by simp) (by decide) (.tmp 19) (.tmp 20) (by simp) (by simp) (by simp) rfl rfl rfl _ s rfl rfl ?_)
  intro g w3 hB hl hg
  have HW : Hid (SelV w g s w3) := ⟨LL.out.trans hl, BR.out.later hl, hB, by rw [hg.out]; exact BR.out.lt⟩
  replace VB := hide (VB.out.later hl)
  clear hl hg hB BR LL HB
  go_wp2_with fail
  simp only [Act.put, List.setIfInBounds_toArray, List.set_cons_succ, List.set_cons_zero]
  go_loopw [2, 8] (fun c v W => ∃ (cb : Bool) (Q : List UInt8) (t : Sns), c = .bool cb ∧ Q.length ≤ n ∧ Hid (Bs W v Q) ∧ three8 t ∧ Hid (selR l ten caching = selG t Q cb) ∧ Hid (SelV w g t W)) (fun _ v _ => slLen8 v)
  case atStart => exact ⟨caching, R, s, rfl, H4, VB, H3, HA, HW⟩
  case round =>
  clear HA HW VB H3 H4
  obtain ⟨cb, Q, t, rfl, hq, VB, h3, HA, HW⟩ := hrel
  obtain ⟨qa, qc, rfl, hsl⟩ := VB.out.sl8
  rcases h3 with rfl | rfl | rfl
  · have s0 := HW.out.2.2.1.cell 0
    have s1 := HW.out.2.2.1.cell 1
    have s2 := HW.out.2.2.1.cell 2
    go_wp2_with fail
    refine (sgood_c (0, 0, 0) _ (by unfold OkS; decide)).mono ?_
    rintro e w7 ⟨rfl, hl⟩
    replace HW := hide (HW.out.later hl)
    replace VB := hide (VB.out.later hl)
    clear hl s0 s1 s2
    rw [show (((0, 0, 0) : Sns) == (0, 0, 0)) = true from rfl]
    by_cases hz : Q.length = 0
    · have HR : Hid (selR l ten caching = (cb, (0, 0, 0))) := by rw [Hid, HA.out, selG, if_pos rfl, selF_nil Q cb hz]
      rw [hz]
      have s0 := HW.out.2.2.1.cell 0
      have s1 := HW.out.2.2.1.cell 1
      have s2 := HW.out.2.2.1.cell 2
      go_wp2_with fail
      have LW := hide HW.out.1
      refine (sgood_c (0, 0, 0) _ (by unfold OkS; decide)).mono ?_
      rintro e w8 ⟨rfl, hl⟩
      replace HW := hide (HW.out.later hl)
      clear hl s0 s1 s2 LW
      rw [show (((0, 0, 0) : Sns) == (0, 0, 0)) = true from rfl]
      have BR := hide HW.out.2.1
      have LL := hide HW.out.1
      go_wp2_with (refine wpList_storeU rfl 30 (.tmp 7) (.tmp 40) rfl w.heap.size 0 rfl (sc (0, 0, 0)) rfl Try.info_sense (sc_one _) _ _ BR.out (by simp) ?_)
      intro wz hz
      have BZ : Hid (Box wz w.heap.size 30 (sc (0, 0, 0))) := by rw [hz.out]; exact BR.out.all _ rfl
      have LZ : Hid (Later w wz) := by rw [hz.out]; exact LL.out.setCells (Nat.le_refl _) _ _
      clear hz
      go_wp2
      refine bodyPost_ret (results_tmp_cell' rfl _ _ _ w.heap.size 0 rfl _ _ (run_loadVar_mid _ _ _ _ (sc (0, 0, 0)) _ BZ.out.range Try.underlying30 rfl Try.info_sense) rfl) rfl ⟨by rw [HR.out]; rfl, LZ.out⟩
    go_wp2_with fail
    refine (step_c _ Q cb _ VB.out (by omega)).mono ?_
    rintro e w8 ⟨u8, rfl, hl, hu⟩
    replace HW := hide (HW.out.later hl)
    have VU := hide hu
    have HA2 : Hid (selR l ten caching = selG (stepR Q cb).2.2 (stepR Q cb).2.1 (stepR Q cb).1) := by rw [Hid, HA.out, selG, if_pos rfl, selF_stepR Q cb (by omega)]
    have H3 := (stepR_three Q cb).1
    have H4 := (stepR_three Q cb).2
    clear hl hu VB HA
    generalize (stepR Q cb).2.2 = t2 at *
    generalize (stepR Q cb).2.1 = Q2 at *
    generalize (stepR Q cb).1 = c2 at *
    obtain ⟨ua, uc, rfl, hul⟩ := VU.out.sl8
    go_wp2_with (refine wpList_storeU rfl 30 (.tmp 9) (.tmp 34) rfl g 0 rfl (sc t2) rfl Try.info_sense (sc_one _) _ _ HW.out.2.2.1 (by simp) ?_)
    intro wz hz
    have HV : Hid (Bs wz (.slice ua Q2.length uc) Q2) := by rw [hz.out]; exact VU.out.setSns7 HW.out.2.2.1 (sc t2) 0
    have HX : Hid (SelV w g t2 wz) := by
      rw [hz.out]
      exact ⟨HW.out.1.setCells (by have := HW.out.2.2.2; omega) _ _, HW.out.2.1.apart _ (by have := HW.out.2.2.2; omega) _ _, HW.out.2.2.1.all _ rfl, HW.out.2.2.2⟩
    clear hz VU
    go_wp2_with fail
    go_roundw
    case rel => exact ⟨c2, Q2, t2, rfl, by omega, HV, H3, HA2, HX⟩
    case measure => rw [hul, hsl]; omega
  · have s0 := HW.out.2.2.1.cell 0
    have s1 := HW.out.2.2.1.cell 1
    have s2 := HW.out.2.2.1.cell 2
    have HR : Hid (selR l ten caching = (false, (5, 26, 0))) := by rw [Hid, HA.out, selG, if_neg (by decide)]
    go_wp2_with fail
    refine (sgood_c (5, 26, 0) _ (by unfold OkS; decide)).mono ?_
    rintro e w7 ⟨rfl, hl⟩
    replace HW := hide (HW.out.later hl)
    replace VB := hide (VB.out.later hl)
    clear hl s0 s1 s2
    rw [show (((5, 26, 0) : Sns) == (0, 0, 0)) = false from rfl]
    have s0 := HW.out.2.2.1.cell 0
    have s1 := HW.out.2.2.1.cell 1
    have s2 := HW.out.2.2.1.cell 2
    go_wp2_with fail
    refine (sgood_c (5, 26, 0) _ (by unfold OkS; decide)).mono ?_
    rintro e w7 ⟨rfl, hl⟩
    replace HW := hide (HW.out.later hl)
    replace VB := hide (VB.out.later hl)
    clear hl s0 s1 s2
    rw [show (((5, 26, 0) : Sns) == (0, 0, 0)) = false from rfl]
    go_wp2_with fail
    refine wp_region_held (SelI w g (5, 26, 0)) (fun a b hl h => ⟨h.1.trans hl, h.2.later hl⟩) ⟨HW.out.1, HW.out.2.2.1⟩ [(0, false), (1, false), (2, true)] (by kernel_rfl) (by kernel_rfl) (by kernel_rfl) (by kernel_rfl) ?_
    haveI := SelI.ne w g (5, 26, 0) ⟨HW.out.1, HW.out.2.2.1⟩
    have s0 := fun p : Held (SelI w g (5, 26, 0)) => p.h.2.cell 0
    have s1 := fun p : Held (SelI w g (5, 26, 0)) => p.h.2.cell 1
    have s2 := fun p : Held (SelI w g (5, 26, 0)) => p.h.2.cell 2
    replace HW := hide (HW.out.later (Later.refl _).drew)
    iterate 2 (refine wpJ_mild rfl (fun K hK => ?_); go_simp; refine hK _ ?_; clear hK K)
    refine wpJ_store rfl rfl 30 (.tmp 7) (.tmp 38) rfl w.heap.size (sc (5, 26, 0)) rfl rfl Try.info_sense (sc_one _) _ _ HW.out.2.1 (by simp) (fun W hW => ⟨(HW.out.1.trans hW).setCells (Nat.le_refl _) _ _, (HW.out.2.2.1.later hW).apart _ (by have := HW.out.2.2.2; omega) _ _⟩) ?_
    intro wl hl wz hz
    have BZ : Hid (Box wz w.heap.size 30 (sc (5, 26, 0))) := by rw [hz.out]; exact (HW.out.2.1.later hl).all _ rfl
    have LZ : Hid (Later w wz) := by rw [hz.out]; exact (HW.out.1.trans hl).setCells (Nat.le_refl _) _ _
    clear hz hl
    refine wpJ_nil (fun wn hn => ?_)
    replace BZ := hide (BZ.out.later hn)
    replace LZ := hide (LZ.out.trans hn)
    clear hn s0 s1 s2
    go_wp2
    refine bodyPost_ret (results_tmp_cell' rfl _ _ _ w.heap.size 0 rfl _ _ (run_loadVar_mid _ _ _ _ (sc (5, 26, 0)) _ BZ.out.range Try.underlying30 rfl Try.info_sense) rfl) rfl ⟨by rw [HR.out]; rfl, LZ.out⟩
  · have s0 := HW.out.2.2.1.cell 0
    have s1 := HW.out.2.2.1.cell 1
    have s2 := HW.out.2.2.1.cell 2
    have HR : Hid (selR l ten caching = (false, (5, 38, 0))) := by rw [Hid, HA.out, selG, if_neg (by decide)]
    go_wp2_with fail
    refine (sgood_c (5, 38, 0) _ (by unfold OkS; decide)).mono ?_
    rintro e w7 ⟨rfl, hl⟩
    replace HW := hide (HW.out.later hl)
    replace VB := hide (VB.out.later hl)
    clear hl s0 s1 s2
    rw [show (((5, 38, 0) : Sns) == (0, 0, 0)) = false from rfl]
    have s0 := HW.out.2.2.1.cell 0
    have s1 := HW.out.2.2.1.cell 1
    have s2 := HW.out.2.2.1.cell 2
    go_wp2_with fail
    refine (sgood_c (5, 38, 0) _ (by unfold OkS; decide)).mono ?_
    rintro e w7 ⟨rfl, hl⟩
    replace HW := hide (HW.out.later hl)
    replace VB := hide (VB.out.later hl)
    clear hl s0 s1 s2
    rw [show (((5, 38, 0) : Sns) == (0, 0, 0)) = false from rfl]
    go_wp2_with fail
    refine wp_region_held (SelI w g (5, 38, 0)) (fun a b hl h => ⟨h.1.trans hl, h.2.later hl⟩) ⟨HW.out.1, HW.out.2.2.1⟩ [(0, false), (1, false), (2, true)] (by kernel_rfl) (by kernel_rfl) (by kernel_rfl) (by kernel_rfl) ?_
    haveI := SelI.ne w g (5, 38, 0) ⟨HW.out.1, HW.out.2.2.1⟩
    have s0 := fun p : Held (SelI w g (5, 38, 0)) => p.h.2.cell 0
    have s1 := fun p : Held (SelI w g (5, 38, 0)) => p.h.2.cell 1
    have s2 := fun p : Held (SelI w g (5, 38, 0)) => p.h.2.cell 2
    replace HW := hide (HW.out.later (Later.refl _).drew)
    iterate 2 (refine wpJ_mild rfl (fun K hK => ?_); go_simp; refine hK _ ?_; clear hK K)
    refine wpJ_store rfl rfl 30 (.tmp 7) (.tmp 38) rfl w.heap.size (sc (5, 38, 0)) rfl rfl Try.info_sense (sc_one _) _ _ HW.out.2.1 (by simp) (fun W hW => ⟨(HW.out.1.trans hW).setCells (Nat.le_refl _) _ _, (HW.out.2.2.1.later hW).apart _ (by have := HW.out.2.2.2; omega) _ _⟩) ?_
    intro wl hl wz hz
    have BZ : Hid (Box wz w.heap.size 30 (sc (5, 38, 0))) := by rw [hz.out]; exact (HW.out.2.1.later hl).all _ rfl
    have LZ : Hid (Later w wz) := by rw [hz.out]; exact (HW.out.1.trans hl).setCells (Nat.le_refl _) _ _
    clear hz hl
    refine wpJ_nil (fun wn hn => ?_)
    replace BZ := hide (BZ.out.later hn)
    replace LZ := hide (LZ.out.trans hn)
    clear hn s0 s1 s2
    go_wp2
    refine bodyPost_ret (results_tmp_cell' rfl _ _ _ w.heap.size 0 rfl _ _ (run_loadVar_mid _ _ _ _ (sc (5, 38, 0)) _ BZ.out.range Try.underlying30 rfl Try.info_sense) rfl) rfl ⟨by rw [HR.out]; rfl, LZ.out⟩
end Go.Proofs.Ytbcikndebaeahaa
