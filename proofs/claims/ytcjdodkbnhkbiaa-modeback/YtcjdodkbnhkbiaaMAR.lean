import Derived.Test.YtcjdodkbnhkbiaaMAQ
import Derived.Test.YtcjdodkbnhkbiaaMAB
namespace Go.Proofs.Ytcjdodkbnhkbiaa
open Go.ChangeShapes Go.WideShapes Go.ChangeAt Go.RowKit
set_option linter.unusedVariables false
set_option linter.unusedSimpArgs false

/-! The landed mode: Answer. -/
set_option maxHeartbeats 4000000 in
theorem manY_26_true (at_ : Nat) (n pg bt : Int) (caching : Bool) (w : World) (hb3 : (bt == 3) = false) (hn : In64 n) (hpg : In64 pg) (hbts : In64 bt) : Calls Try.prog 9 #[cval (26, at_, n, pg, bt), .bool caching, .bool true] w fun e w' => ∃ v, e = .returned (.tuple #[v, sval (mansR (26, at_, n, pg, bt) caching true).2]) ∧ Later w w' ∧ Bs w' v (mansR (26, at_, n, pg, bt) caching true).1 := by
  have hbt : bt ≠ 3 := by simpa using hb3
  have HN := hide hn
  have HPg := hide hpg
  have HBt := hide hbts
  clear hn hpg hbts
  have BX := hide ((Box.new w 24 #[.int .i64 26, .int .u64 (at_ : Int), .int .i64 n, .int .i64 pg, .int .i64 bt]).alloc (.cells #[.int .i64 0, .int .i64 0, .int .i64 0] 28))
  have BS : Hid (Box _ (w.heap.size + 1) 28 (sc (0, 0, 0))) := Box.new' (w.alloc (.cells #[.int .i64 26, .int .u64 (at_ : Int), .int .i64 n, .int .i64 pg, .int .i64 bt] 24)) 28 #[.int .i64 0, .int .i64 0, .int .i64 0] _ rfl _ (by simp)
  have LL := hide (((Later.refl w).alloc (.cells #[.int .i64 26, .int .u64 (at_ : Int), .int .i64 n, .int .i64 pg, .int .i64 bt] 24)).alloc (.cells #[.int .i64 0, .int .i64 0, .int .i64 0] 28))
  have x0 := BX.out.cell 0
  have x1 := BX.out.cell 1
  have x2 := BX.out.cell 2
  have x3 := BX.out.cell 3
  have x4 := BX.out.cell 4
  go_enter Try.func9, Try.ntmps9
  go_wp2_with fail
  generalize ((w.alloc (.cells #[.int .i64 26, .int .u64 (at_ : Int), .int .i64 n, .int .i64 pg, .int .i64 bt] 24)).alloc (.cells #[.int .i64 0, .int .i64 0, .int .i64 0] 28)) = w1 at *
  refine (mpage_c pg bt caching HPg.out HBt.out _).mono ?_
  rintro e w2 ⟨vp, rfl, hl, hp⟩
  replace LL := hide (LL.out.trans hl)
  replace BX := hide (BX.out.later hl)
  replace BS := hide (BS.out.later hl)
  have VP := hide hp
  clear hl hp x0 x1 x2 x3 x4
  have x0 := BX.out.cell 0
  have x1 := BX.out.cell 1
  have x2 := BX.out.cell 2
  have x3 := BX.out.cell 3
  have x4 := BX.out.cell 4
  cases hmp : mpB pg with
  | false =>
    have HR : Hid (mansR (26, at_, n, pg, bt) caching true = ([], (5, 36, 0))) := by simp [Hid, mansR, hbt, hmp]
    clear hbt hmp
    go_wp2_with fail
    refine (con_Field _).mono ?_
    rintro e w2 ⟨rfl, hl⟩
    replace LL := hide (LL.out.trans hl)
    replace BS := hide (BS.out.later hl)
    clear hl
    go_wp2_with (refine wpList_storeU rfl 28 (.tmp 7) (.tmp 35) rfl (w.heap.size + 1) 0 rfl (sc (5, 36, 0)) rfl Try.info_sense (sc_one _) _ _ BS.out (by simp) ?_)
    intro wz hz
    have BZ : Hid (Box wz (w.heap.size + 1) 28 (sc (5, 36, 0))) := by rw [hz.out]; exact BS.out.all _ rfl
    have LZ : Hid (Later w wz) := by rw [hz.out]; exact LL.out.setCells (Nat.le_succ _) _ _
    clear hz
    go_wp2
    refine bodyPost_ret (results_tmp_cell' rfl _ _ _ (w.heap.size + 1) 0 rfl _ _ (run_loadVar_mid _ _ _ _ (sc (5, 36, 0)) _ BZ.out.range Try.underlying28 rfl Try.info_sense) rfl) rfl ⟨_, by rw [HR.out], LZ.out, by rw [HR.out]; exact (Bs.nil _)⟩
  | true =>
    obtain ⟨L, hL⟩ : ∃ L, L = mpL pg bt caching := ⟨_, rfl⟩
    have HR : Hid (mansR (26, at_, n, pg, bt) caching true = (cutL (mhead 26 L.length true ++ L) n, (0, 0, 0))) := by simp [Hid, mansR, hbt, hmp, hL]
    have hL32 : L.length ≤ 32 := by rw [hL]; exact mpL_len _ _ _
    rw [← hL] at VP
    clear hL hmp hbt
    have VP2 := VP.out
    obtain ⟨hv1, pa, pc, rfl, hv2, hv3⟩ := VP2
    clear hv1 hv2 hv3
    obtain ⟨k, hk⟩ : ∃ k, k = L.length := ⟨_, rfl⟩
    rw [← hk] at VP HR hL32 ⊢
    have HK := hide hk
    clear hk
    go_wp2_with fail
    refine (header_false_true k hL32 _).mono ?_
    rintro e w3 ⟨g, rfl, hl, hg, hB⟩
    have L3 := hide hl
    have G3 := hide hg
    have B3 := hide hB
    clear hl hg hB x0 x1 x2 x3 x4
    go_wp2_with (at_builtin; refine wpList_append_bs rfl (.tmp 42) (.tmp 43) rfl w2.heap.size _ 4 (mhead 26 k true) rfl (owns_box B3.out rfl (by decide) G3.out) _ L rfl (VP.out.later L3.out) (by have := HK.out; omega) L3.out.size w2 L3.out ?_)
    intro v4 w4 ho hb hg
    have V4 := hide (Bs.of_owns ho).1
    have L4 : Later w2 w4 := hb
    replace LL := hide (LL.out.trans L4)
    replace BX := hide (BX.out.later L4)
    replace BS := hide (BS.out.later L4)
    clear ho hb hg L4 L3 B3 G3 VP
    have x0 := BX.out.cell 0
    have x1 := BX.out.cell 1
    have x2 := BX.out.cell 2
    have x3 := BX.out.cell 3
    have x4 := BX.out.cell 4
    go_wp2_with fail
    refine (cut7_c _ _ n _ V4.out (by have := HK.out; simp [mhead]; omega) HN.out).mono ?_
    rintro e w5 ⟨v5, rfl, hl, hb⟩
    replace LL := hide (LL.out.trans hl)
    replace BS := hide (BS.out.later hl)
    have V5 := hide hb
    clear hl hb V4 BX x0 x1 x2 x3 x4
    go_wp2_with (refine wpList_storeU rfl 28 (.tmp 7) (.tmp 49) rfl (w.heap.size + 1) 0 rfl (sc (0, 0, 0)) rfl Try.info_sense (sc_one _) _ _ BS.out (by simp) ?_)
    intro wz hz
    have BZ : Hid (Box wz (w.heap.size + 1) 28 (sc (0, 0, 0))) := by rw [hz.out]; exact BS.out.all _ rfl
    have LZ : Hid (Later w wz) := by rw [hz.out]; exact LL.out.setCells (Nat.le_succ _) _ _
    have VZ := V5.out.setSns7 BS.out (sc (0, 0, 0)) 0
    rw [← hz.out] at VZ
    clear hz
    go_wp2
    refine bodyPost_ret (results_tmp_cell' rfl _ _ _ (w.heap.size + 1) 0 rfl _ _ (run_loadVar_mid _ _ _ _ (sc (0, 0, 0)) _ BZ.out.range Try.underlying28 rfl Try.info_sense) rfl) rfl ⟨_, by rw [HR.out], LZ.out, by rw [HR.out]; exact VZ⟩
set_option maxHeartbeats 4000000 in
theorem manY_90_true (at_ : Nat) (n pg bt : Int) (caching : Bool) (w : World) (hb3 : (bt == 3) = false) (hn : In64 n) (hpg : In64 pg) (hbts : In64 bt) : Calls Try.prog 9 #[cval (90, at_, n, pg, bt), .bool caching, .bool true] w fun e w' => ∃ v, e = .returned (.tuple #[v, sval (mansR (90, at_, n, pg, bt) caching true).2]) ∧ Later w w' ∧ Bs w' v (mansR (90, at_, n, pg, bt) caching true).1 := by
  have hbt : bt ≠ 3 := by simpa using hb3
  have HN := hide hn
  have HPg := hide hpg
  have HBt := hide hbts
  clear hn hpg hbts
  have BX := hide ((Box.new w 24 #[.int .i64 90, .int .u64 (at_ : Int), .int .i64 n, .int .i64 pg, .int .i64 bt]).alloc (.cells #[.int .i64 0, .int .i64 0, .int .i64 0] 28))
  have BS : Hid (Box _ (w.heap.size + 1) 28 (sc (0, 0, 0))) := Box.new' (w.alloc (.cells #[.int .i64 90, .int .u64 (at_ : Int), .int .i64 n, .int .i64 pg, .int .i64 bt] 24)) 28 #[.int .i64 0, .int .i64 0, .int .i64 0] _ rfl _ (by simp)
  have LL := hide (((Later.refl w).alloc (.cells #[.int .i64 90, .int .u64 (at_ : Int), .int .i64 n, .int .i64 pg, .int .i64 bt] 24)).alloc (.cells #[.int .i64 0, .int .i64 0, .int .i64 0] 28))
  have x0 := BX.out.cell 0
  have x1 := BX.out.cell 1
  have x2 := BX.out.cell 2
  have x3 := BX.out.cell 3
  have x4 := BX.out.cell 4
  go_enter Try.func9, Try.ntmps9
  go_wp2_with fail
  generalize ((w.alloc (.cells #[.int .i64 90, .int .u64 (at_ : Int), .int .i64 n, .int .i64 pg, .int .i64 bt] 24)).alloc (.cells #[.int .i64 0, .int .i64 0, .int .i64 0] 28)) = w1 at *
  refine (mpage_c pg bt caching HPg.out HBt.out _).mono ?_
  rintro e w2 ⟨vp, rfl, hl, hp⟩
  replace LL := hide (LL.out.trans hl)
  replace BX := hide (BX.out.later hl)
  replace BS := hide (BS.out.later hl)
  have VP := hide hp
  clear hl hp x0 x1 x2 x3 x4
  have x0 := BX.out.cell 0
  have x1 := BX.out.cell 1
  have x2 := BX.out.cell 2
  have x3 := BX.out.cell 3
  have x4 := BX.out.cell 4
  cases hmp : mpB pg with
  | false =>
    have HR : Hid (mansR (90, at_, n, pg, bt) caching true = ([], (5, 36, 0))) := by simp [Hid, mansR, hbt, hmp]
    clear hbt hmp
    go_wp2_with fail
    refine (con_Field _).mono ?_
    rintro e w2 ⟨rfl, hl⟩
    replace LL := hide (LL.out.trans hl)
    replace BS := hide (BS.out.later hl)
    clear hl
    go_wp2_with (refine wpList_storeU rfl 28 (.tmp 7) (.tmp 35) rfl (w.heap.size + 1) 0 rfl (sc (5, 36, 0)) rfl Try.info_sense (sc_one _) _ _ BS.out (by simp) ?_)
    intro wz hz
    have BZ : Hid (Box wz (w.heap.size + 1) 28 (sc (5, 36, 0))) := by rw [hz.out]; exact BS.out.all _ rfl
    have LZ : Hid (Later w wz) := by rw [hz.out]; exact LL.out.setCells (Nat.le_succ _) _ _
    clear hz
    go_wp2
    refine bodyPost_ret (results_tmp_cell' rfl _ _ _ (w.heap.size + 1) 0 rfl _ _ (run_loadVar_mid _ _ _ _ (sc (5, 36, 0)) _ BZ.out.range Try.underlying28 rfl Try.info_sense) rfl) rfl ⟨_, by rw [HR.out], LZ.out, by rw [HR.out]; exact (Bs.nil _)⟩
  | true =>
    obtain ⟨L, hL⟩ : ∃ L, L = mpL pg bt caching := ⟨_, rfl⟩
    have HR : Hid (mansR (90, at_, n, pg, bt) caching true = (cutL (mhead 90 L.length true ++ L) n, (0, 0, 0))) := by simp [Hid, mansR, hbt, hmp, hL]
    have hL32 : L.length ≤ 32 := by rw [hL]; exact mpL_len _ _ _
    rw [← hL] at VP
    clear hL hmp hbt
    have VP2 := VP.out
    obtain ⟨hv1, pa, pc, rfl, hv2, hv3⟩ := VP2
    clear hv1 hv2 hv3
    obtain ⟨k, hk⟩ : ∃ k, k = L.length := ⟨_, rfl⟩
    rw [← hk] at VP HR hL32 ⊢
    have HK := hide hk
    clear hk
    go_wp2_with fail
    refine (header_true_true k hL32 _).mono ?_
    rintro e w3 ⟨g, rfl, hl, hg, hB⟩
    have L3 := hide hl
    have G3 := hide hg
    have B3 := hide hB
    clear hl hg hB x0 x1 x2 x3 x4
    go_wp2_with (at_builtin; refine wpList_append_bs rfl (.tmp 42) (.tmp 43) rfl w2.heap.size _ 8 (mhead 90 k true) rfl (owns_box B3.out rfl (by decide) G3.out) _ L rfl (VP.out.later L3.out) (by have := HK.out; omega) L3.out.size w2 L3.out ?_)
    intro v4 w4 ho hb hg
    have V4 := hide (Bs.of_owns ho).1
    have L4 : Later w2 w4 := hb
    replace LL := hide (LL.out.trans L4)
    replace BX := hide (BX.out.later L4)
    replace BS := hide (BS.out.later L4)
    clear ho hb hg L4 L3 B3 G3 VP
    have x0 := BX.out.cell 0
    have x1 := BX.out.cell 1
    have x2 := BX.out.cell 2
    have x3 := BX.out.cell 3
    have x4 := BX.out.cell 4
    go_wp2_with fail
    refine (cut7_c _ _ n _ V4.out (by have := HK.out; simp [mhead]; omega) HN.out).mono ?_
    rintro e w5 ⟨v5, rfl, hl, hb⟩
    replace LL := hide (LL.out.trans hl)
    replace BS := hide (BS.out.later hl)
    have V5 := hide hb
    clear hl hb V4 BX x0 x1 x2 x3 x4
    go_wp2_with (refine wpList_storeU rfl 28 (.tmp 7) (.tmp 49) rfl (w.heap.size + 1) 0 rfl (sc (0, 0, 0)) rfl Try.info_sense (sc_one _) _ _ BS.out (by simp) ?_)
    intro wz hz
    have BZ : Hid (Box wz (w.heap.size + 1) 28 (sc (0, 0, 0))) := by rw [hz.out]; exact BS.out.all _ rfl
    have LZ : Hid (Later w wz) := by rw [hz.out]; exact LL.out.setCells (Nat.le_succ _) _ _
    have VZ := V5.out.setSns7 BS.out (sc (0, 0, 0)) 0
    rw [← hz.out] at VZ
    clear hz
    go_wp2
    refine bodyPost_ret (results_tmp_cell' rfl _ _ _ (w.heap.size + 1) 0 rfl _ _ (run_loadVar_mid _ _ _ _ (sc (0, 0, 0)) _ BZ.out.range Try.underlying28 rfl Try.info_sense) rfl) rfl ⟨_, by rw [HR.out], LZ.out, by rw [HR.out]; exact VZ⟩
set_option maxHeartbeats 4000000 in
theorem manY_26_false (at_ : Nat) (n pg bt : Int) (caching : Bool) (w : World) (hb3 : (bt == 3) = false) (hn : In64 n) (hpg : In64 pg) (hbts : In64 bt) : Calls Try.prog 9 #[cval (26, at_, n, pg, bt), .bool caching, .bool false] w fun e w' => ∃ v, e = .returned (.tuple #[v, sval (mansR (26, at_, n, pg, bt) caching false).2]) ∧ Later w w' ∧ Bs w' v (mansR (26, at_, n, pg, bt) caching false).1 := by
  have hbt : bt ≠ 3 := by simpa using hb3
  have HN := hide hn
  have HPg := hide hpg
  have HBt := hide hbts
  clear hn hpg hbts
  have BX := hide ((Box.new w 24 #[.int .i64 26, .int .u64 (at_ : Int), .int .i64 n, .int .i64 pg, .int .i64 bt]).alloc (.cells #[.int .i64 0, .int .i64 0, .int .i64 0] 28))
  have BS : Hid (Box _ (w.heap.size + 1) 28 (sc (0, 0, 0))) := Box.new' (w.alloc (.cells #[.int .i64 26, .int .u64 (at_ : Int), .int .i64 n, .int .i64 pg, .int .i64 bt] 24)) 28 #[.int .i64 0, .int .i64 0, .int .i64 0] _ rfl _ (by simp)
  have LL := hide (((Later.refl w).alloc (.cells #[.int .i64 26, .int .u64 (at_ : Int), .int .i64 n, .int .i64 pg, .int .i64 bt] 24)).alloc (.cells #[.int .i64 0, .int .i64 0, .int .i64 0] 28))
  have x0 := BX.out.cell 0
  have x1 := BX.out.cell 1
  have x2 := BX.out.cell 2
  have x3 := BX.out.cell 3
  have x4 := BX.out.cell 4
  go_enter Try.func9, Try.ntmps9
  go_wp2_with fail
  generalize ((w.alloc (.cells #[.int .i64 26, .int .u64 (at_ : Int), .int .i64 n, .int .i64 pg, .int .i64 bt] 24)).alloc (.cells #[.int .i64 0, .int .i64 0, .int .i64 0] 28)) = w1 at *
  refine (mpage_c pg bt caching HPg.out HBt.out _).mono ?_
  rintro e w2 ⟨vp, rfl, hl, hp⟩
  replace LL := hide (LL.out.trans hl)
  replace BX := hide (BX.out.later hl)
  replace BS := hide (BS.out.later hl)
  have VP := hide hp
  clear hl hp x0 x1 x2 x3 x4
  have x0 := BX.out.cell 0
  have x1 := BX.out.cell 1
  have x2 := BX.out.cell 2
  have x3 := BX.out.cell 3
  have x4 := BX.out.cell 4
  cases hmp : mpB pg with
  | false =>
    have HR : Hid (mansR (26, at_, n, pg, bt) caching false = ([], (5, 36, 0))) := by simp [Hid, mansR, hbt, hmp]
    clear hbt hmp
    go_wp2_with fail
    refine (con_Field _).mono ?_
    rintro e w2 ⟨rfl, hl⟩
    replace LL := hide (LL.out.trans hl)
    replace BS := hide (BS.out.later hl)
    clear hl
    go_wp2_with (refine wpList_storeU rfl 28 (.tmp 7) (.tmp 35) rfl (w.heap.size + 1) 0 rfl (sc (5, 36, 0)) rfl Try.info_sense (sc_one _) _ _ BS.out (by simp) ?_)
    intro wz hz
    have BZ : Hid (Box wz (w.heap.size + 1) 28 (sc (5, 36, 0))) := by rw [hz.out]; exact BS.out.all _ rfl
    have LZ : Hid (Later w wz) := by rw [hz.out]; exact LL.out.setCells (Nat.le_succ _) _ _
    clear hz
    go_wp2
    refine bodyPost_ret (results_tmp_cell' rfl _ _ _ (w.heap.size + 1) 0 rfl _ _ (run_loadVar_mid _ _ _ _ (sc (5, 36, 0)) _ BZ.out.range Try.underlying28 rfl Try.info_sense) rfl) rfl ⟨_, by rw [HR.out], LZ.out, by rw [HR.out]; exact (Bs.nil _)⟩
  | true =>
    obtain ⟨L, hL⟩ : ∃ L, L = mpL pg bt caching := ⟨_, rfl⟩
    have HR : Hid (mansR (26, at_, n, pg, bt) caching false = (cutL (mhead 26 L.length false ++ L) n, (0, 0, 0))) := by simp [Hid, mansR, hbt, hmp, hL]
    have hL32 : L.length ≤ 32 := by rw [hL]; exact mpL_len _ _ _
    rw [← hL] at VP
    clear hL hmp hbt
    have VP2 := VP.out
    obtain ⟨hv1, pa, pc, rfl, hv2, hv3⟩ := VP2
    clear hv1 hv2 hv3
    obtain ⟨k, hk⟩ : ∃ k, k = L.length := ⟨_, rfl⟩
    rw [← hk] at VP HR hL32 ⊢
    have HK := hide hk
    clear hk
    go_wp2_with fail
    refine (header_false_false k hL32 _).mono ?_
    rintro e w3 ⟨g, rfl, hl, hg, hB⟩
    have L3 := hide hl
    have G3 := hide hg
    have B3 := hide hB
    clear hl hg hB x0 x1 x2 x3 x4
    go_wp2_with (at_builtin; refine wpList_append_bs rfl (.tmp 42) (.tmp 43) rfl w2.heap.size _ 4 (mhead 26 k false) rfl (owns_box B3.out rfl (by decide) G3.out) _ L rfl (VP.out.later L3.out) (by have := HK.out; omega) L3.out.size w2 L3.out ?_)
    intro v4 w4 ho hb hg
    have V4 := hide (Bs.of_owns ho).1
    have L4 : Later w2 w4 := hb
    replace LL := hide (LL.out.trans L4)
    replace BX := hide (BX.out.later L4)
    replace BS := hide (BS.out.later L4)
    clear ho hb hg L4 L3 B3 G3 VP
    have x0 := BX.out.cell 0
    have x1 := BX.out.cell 1
    have x2 := BX.out.cell 2
    have x3 := BX.out.cell 3
    have x4 := BX.out.cell 4
    go_wp2_with fail
    refine (cut7_c _ _ n _ V4.out (by have := HK.out; simp [mhead]; omega) HN.out).mono ?_
    rintro e w5 ⟨v5, rfl, hl, hb⟩
    replace LL := hide (LL.out.trans hl)
    replace BS := hide (BS.out.later hl)
    have V5 := hide hb
    clear hl hb V4 BX x0 x1 x2 x3 x4
    go_wp2_with (refine wpList_storeU rfl 28 (.tmp 7) (.tmp 49) rfl (w.heap.size + 1) 0 rfl (sc (0, 0, 0)) rfl Try.info_sense (sc_one _) _ _ BS.out (by simp) ?_)
    intro wz hz
    have BZ : Hid (Box wz (w.heap.size + 1) 28 (sc (0, 0, 0))) := by rw [hz.out]; exact BS.out.all _ rfl
    have LZ : Hid (Later w wz) := by rw [hz.out]; exact LL.out.setCells (Nat.le_succ _) _ _
    have VZ := V5.out.setSns7 BS.out (sc (0, 0, 0)) 0
    rw [← hz.out] at VZ
    clear hz
    go_wp2
    refine bodyPost_ret (results_tmp_cell' rfl _ _ _ (w.heap.size + 1) 0 rfl _ _ (run_loadVar_mid _ _ _ _ (sc (0, 0, 0)) _ BZ.out.range Try.underlying28 rfl Try.info_sense) rfl) rfl ⟨_, by rw [HR.out], LZ.out, by rw [HR.out]; exact VZ⟩
set_option maxHeartbeats 4000000 in
theorem manY_90_false (at_ : Nat) (n pg bt : Int) (caching : Bool) (w : World) (hb3 : (bt == 3) = false) (hn : In64 n) (hpg : In64 pg) (hbts : In64 bt) : Calls Try.prog 9 #[cval (90, at_, n, pg, bt), .bool caching, .bool false] w fun e w' => ∃ v, e = .returned (.tuple #[v, sval (mansR (90, at_, n, pg, bt) caching false).2]) ∧ Later w w' ∧ Bs w' v (mansR (90, at_, n, pg, bt) caching false).1 := by
  have hbt : bt ≠ 3 := by simpa using hb3
  have HN := hide hn
  have HPg := hide hpg
  have HBt := hide hbts
  clear hn hpg hbts
  have BX := hide ((Box.new w 24 #[.int .i64 90, .int .u64 (at_ : Int), .int .i64 n, .int .i64 pg, .int .i64 bt]).alloc (.cells #[.int .i64 0, .int .i64 0, .int .i64 0] 28))
  have BS : Hid (Box _ (w.heap.size + 1) 28 (sc (0, 0, 0))) := Box.new' (w.alloc (.cells #[.int .i64 90, .int .u64 (at_ : Int), .int .i64 n, .int .i64 pg, .int .i64 bt] 24)) 28 #[.int .i64 0, .int .i64 0, .int .i64 0] _ rfl _ (by simp)
  have LL := hide (((Later.refl w).alloc (.cells #[.int .i64 90, .int .u64 (at_ : Int), .int .i64 n, .int .i64 pg, .int .i64 bt] 24)).alloc (.cells #[.int .i64 0, .int .i64 0, .int .i64 0] 28))
  have x0 := BX.out.cell 0
  have x1 := BX.out.cell 1
  have x2 := BX.out.cell 2
  have x3 := BX.out.cell 3
  have x4 := BX.out.cell 4
  go_enter Try.func9, Try.ntmps9
  go_wp2_with fail
  generalize ((w.alloc (.cells #[.int .i64 90, .int .u64 (at_ : Int), .int .i64 n, .int .i64 pg, .int .i64 bt] 24)).alloc (.cells #[.int .i64 0, .int .i64 0, .int .i64 0] 28)) = w1 at *
  refine (mpage_c pg bt caching HPg.out HBt.out _).mono ?_
  rintro e w2 ⟨vp, rfl, hl, hp⟩
  replace LL := hide (LL.out.trans hl)
  replace BX := hide (BX.out.later hl)
  replace BS := hide (BS.out.later hl)
  have VP := hide hp
  clear hl hp x0 x1 x2 x3 x4
  have x0 := BX.out.cell 0
  have x1 := BX.out.cell 1
  have x2 := BX.out.cell 2
  have x3 := BX.out.cell 3
  have x4 := BX.out.cell 4
  cases hmp : mpB pg with
  | false =>
    have HR : Hid (mansR (90, at_, n, pg, bt) caching false = ([], (5, 36, 0))) := by simp [Hid, mansR, hbt, hmp]
    clear hbt hmp
    go_wp2_with fail
    refine (con_Field _).mono ?_
    rintro e w2 ⟨rfl, hl⟩
    replace LL := hide (LL.out.trans hl)
    replace BS := hide (BS.out.later hl)
    clear hl
    go_wp2_with (refine wpList_storeU rfl 28 (.tmp 7) (.tmp 35) rfl (w.heap.size + 1) 0 rfl (sc (5, 36, 0)) rfl Try.info_sense (sc_one _) _ _ BS.out (by simp) ?_)
    intro wz hz
    have BZ : Hid (Box wz (w.heap.size + 1) 28 (sc (5, 36, 0))) := by rw [hz.out]; exact BS.out.all _ rfl
    have LZ : Hid (Later w wz) := by rw [hz.out]; exact LL.out.setCells (Nat.le_succ _) _ _
    clear hz
    go_wp2
    refine bodyPost_ret (results_tmp_cell' rfl _ _ _ (w.heap.size + 1) 0 rfl _ _ (run_loadVar_mid _ _ _ _ (sc (5, 36, 0)) _ BZ.out.range Try.underlying28 rfl Try.info_sense) rfl) rfl ⟨_, by rw [HR.out], LZ.out, by rw [HR.out]; exact (Bs.nil _)⟩
  | true =>
    obtain ⟨L, hL⟩ : ∃ L, L = mpL pg bt caching := ⟨_, rfl⟩
    have HR : Hid (mansR (90, at_, n, pg, bt) caching false = (cutL (mhead 90 L.length false ++ L) n, (0, 0, 0))) := by simp [Hid, mansR, hbt, hmp, hL]
    have hL32 : L.length ≤ 32 := by rw [hL]; exact mpL_len _ _ _
    rw [← hL] at VP
    clear hL hmp hbt
    have VP2 := VP.out
    obtain ⟨hv1, pa, pc, rfl, hv2, hv3⟩ := VP2
    clear hv1 hv2 hv3
    obtain ⟨k, hk⟩ : ∃ k, k = L.length := ⟨_, rfl⟩
    rw [← hk] at VP HR hL32 ⊢
    have HK := hide hk
    clear hk
    go_wp2_with fail
    refine (header_true_false k hL32 _).mono ?_
    rintro e w3 ⟨g, rfl, hl, hg, hB⟩
    have L3 := hide hl
    have G3 := hide hg
    have B3 := hide hB
    clear hl hg hB x0 x1 x2 x3 x4
    go_wp2_with (at_builtin; refine wpList_append_bs rfl (.tmp 42) (.tmp 43) rfl w2.heap.size _ 8 (mhead 90 k false) rfl (owns_box B3.out rfl (by decide) G3.out) _ L rfl (VP.out.later L3.out) (by have := HK.out; omega) L3.out.size w2 L3.out ?_)
    intro v4 w4 ho hb hg
    have V4 := hide (Bs.of_owns ho).1
    have L4 : Later w2 w4 := hb
    replace LL := hide (LL.out.trans L4)
    replace BX := hide (BX.out.later L4)
    replace BS := hide (BS.out.later L4)
    clear ho hb hg L4 L3 B3 G3 VP
    have x0 := BX.out.cell 0
    have x1 := BX.out.cell 1
    have x2 := BX.out.cell 2
    have x3 := BX.out.cell 3
    have x4 := BX.out.cell 4
    go_wp2_with fail
    refine (cut7_c _ _ n _ V4.out (by have := HK.out; simp [mhead]; omega) HN.out).mono ?_
    rintro e w5 ⟨v5, rfl, hl, hb⟩
    replace LL := hide (LL.out.trans hl)
    replace BS := hide (BS.out.later hl)
    have V5 := hide hb
    clear hl hb V4 BX x0 x1 x2 x3 x4
    go_wp2_with (refine wpList_storeU rfl 28 (.tmp 7) (.tmp 49) rfl (w.heap.size + 1) 0 rfl (sc (0, 0, 0)) rfl Try.info_sense (sc_one _) _ _ BS.out (by simp) ?_)
    intro wz hz
    have BZ : Hid (Box wz (w.heap.size + 1) 28 (sc (0, 0, 0))) := by rw [hz.out]; exact BS.out.all _ rfl
    have LZ : Hid (Later w wz) := by rw [hz.out]; exact LL.out.setCells (Nat.le_succ _) _ _
    have VZ := V5.out.setSns7 BS.out (sc (0, 0, 0)) 0
    rw [← hz.out] at VZ
    clear hz
    go_wp2
    refine bodyPost_ret (results_tmp_cell' rfl _ _ _ (w.heap.size + 1) 0 rfl _ _ (run_loadVar_mid _ _ _ _ (sc (0, 0, 0)) _ BZ.out.range Try.underlying28 rfl Try.info_sense) rfl) rfl ⟨_, by rw [HR.out], LZ.out, by rw [HR.out]; exact VZ⟩
set_option maxHeartbeats 4000000 in
theorem manswer_c : IAns8 := by
  intro c caching protect w hc
  obtain ⟨h1, h2, hn, hpg, hbts⟩ := hc
  obtain ⟨op, at_, n, pg, bt⟩ := c
  simp only at h1 h2 hn hpg hbts
  clear h1 h2
  by_cases hop : op ≠ 26 ∧ op ≠ 90
  · have HR : Hid (mansR (op, at_, n, pg, bt) caching protect = ([], (5, 36, 0))) := by simp [Hid, mansR, hop]
    have hb1 : (op != 26) = true := by simp [hop.1]
    have hb2 : (op != 90) = true := by simp [hop.2]
    clear hop hn hpg hbts
    have BX := hide ((Box.new w 24 #[.int .i64 op, .int .u64 (at_ : Int), .int .i64 n, .int .i64 pg, .int .i64 bt]).alloc (.cells #[.int .i64 0, .int .i64 0, .int .i64 0] 28))
    have BS : Hid (Box _ (w.heap.size + 1) 28 (sc (0, 0, 0))) := Box.new' (w.alloc (.cells #[.int .i64 op, .int .u64 (at_ : Int), .int .i64 n, .int .i64 pg, .int .i64 bt] 24)) 28 #[.int .i64 0, .int .i64 0, .int .i64 0] _ rfl _ (by simp)
    have LL := hide (((Later.refl w).alloc (.cells #[.int .i64 op, .int .u64 (at_ : Int), .int .i64 n, .int .i64 pg, .int .i64 bt] 24)).alloc (.cells #[.int .i64 0, .int .i64 0, .int .i64 0] 28))
    have x0 := BX.out.cell 0
    have x1 := BX.out.cell 1
    have x2 := BX.out.cell 2
    have x3 := BX.out.cell 3
    have x4 := BX.out.cell 4
    go_enter Try.func9, Try.ntmps9
    go_wp2_with fail
    refine (con_Field _).mono ?_
    rintro e w2 ⟨rfl, hl⟩
    replace LL := hide (LL.out.trans hl)
    replace BS := hide (BS.out.later hl)
    clear hl
    go_wp2_with (refine wpList_storeU rfl 28 (.tmp 7) (.tmp 19) rfl (w.heap.size + 1) 0 rfl (sc (5, 36, 0)) rfl Try.info_sense (sc_one _) _ _ BS.out (by simp) ?_)
    intro wz hz
    have BZ : Hid (Box wz (w.heap.size + 1) 28 (sc (5, 36, 0))) := by rw [hz.out]; exact BS.out.all _ rfl
    have LZ : Hid (Later w wz) := by rw [hz.out]; exact LL.out.setCells (Nat.le_succ _) _ _
    clear hz
    go_wp2
    refine bodyPost_ret (results_tmp_cell' rfl _ _ _ (w.heap.size + 1) 0 rfl _ _ (run_loadVar_mid _ _ _ _ (sc (5, 36, 0)) _ BZ.out.range Try.underlying28 rfl Try.info_sense) rfl) rfl ⟨_, by rw [HR.out], LZ.out, by rw [HR.out]; exact (Bs.nil _)⟩
  by_cases hbt : bt = 3
  · have hb3 : (bt == 3) = true := by simp [hbt]
    have HR : Hid (mansR (op, at_, n, pg, bt) caching protect = ([], (5, 57, 0))) := by simp [Hid, mansR, hop, hbt]
    clear hbt hn hpg hbts
    rcases (show op = 26 ∨ op = 90 by omega) with rfl | rfl
    · clear hop
      have BX := hide ((Box.new w 24 #[.int .i64 26, .int .u64 (at_ : Int), .int .i64 n, .int .i64 pg, .int .i64 bt]).alloc (.cells #[.int .i64 0, .int .i64 0, .int .i64 0] 28))
      have BS : Hid (Box _ (w.heap.size + 1) 28 (sc (0, 0, 0))) := Box.new' (w.alloc (.cells #[.int .i64 26, .int .u64 (at_ : Int), .int .i64 n, .int .i64 pg, .int .i64 bt] 24)) 28 #[.int .i64 0, .int .i64 0, .int .i64 0] _ rfl _ (by simp)
      have LL := hide (((Later.refl w).alloc (.cells #[.int .i64 26, .int .u64 (at_ : Int), .int .i64 n, .int .i64 pg, .int .i64 bt] 24)).alloc (.cells #[.int .i64 0, .int .i64 0, .int .i64 0] 28))
      have x0 := BX.out.cell 0
      have x1 := BX.out.cell 1
      have x2 := BX.out.cell 2
      have x3 := BX.out.cell 3
      have x4 := BX.out.cell 4
      go_enter Try.func9, Try.ntmps9
      go_wp2_with fail
      refine (con_Saving _).mono ?_
      rintro e w2 ⟨rfl, hl⟩
      replace LL := hide (LL.out.trans hl)
      replace BS := hide (BS.out.later hl)
      clear hl
      go_wp2_with (refine wpList_storeU rfl 28 (.tmp 7) (.tmp 23) rfl (w.heap.size + 1) 0 rfl (sc (5, 57, 0)) rfl Try.info_sense (sc_one _) _ _ BS.out (by simp) ?_)
      intro wz hz
      have BZ : Hid (Box wz (w.heap.size + 1) 28 (sc (5, 57, 0))) := by rw [hz.out]; exact BS.out.all _ rfl
      have LZ : Hid (Later w wz) := by rw [hz.out]; exact LL.out.setCells (Nat.le_succ _) _ _
      clear hz
      go_wp2
      refine bodyPost_ret (results_tmp_cell' rfl _ _ _ (w.heap.size + 1) 0 rfl _ _ (run_loadVar_mid _ _ _ _ (sc (5, 57, 0)) _ BZ.out.range Try.underlying28 rfl Try.info_sense) rfl) rfl ⟨_, by rw [HR.out], LZ.out, by rw [HR.out]; exact (Bs.nil _)⟩
    · clear hop
      have BX := hide ((Box.new w 24 #[.int .i64 90, .int .u64 (at_ : Int), .int .i64 n, .int .i64 pg, .int .i64 bt]).alloc (.cells #[.int .i64 0, .int .i64 0, .int .i64 0] 28))
      have BS : Hid (Box _ (w.heap.size + 1) 28 (sc (0, 0, 0))) := Box.new' (w.alloc (.cells #[.int .i64 90, .int .u64 (at_ : Int), .int .i64 n, .int .i64 pg, .int .i64 bt] 24)) 28 #[.int .i64 0, .int .i64 0, .int .i64 0] _ rfl _ (by simp)
      have LL := hide (((Later.refl w).alloc (.cells #[.int .i64 90, .int .u64 (at_ : Int), .int .i64 n, .int .i64 pg, .int .i64 bt] 24)).alloc (.cells #[.int .i64 0, .int .i64 0, .int .i64 0] 28))
      have x0 := BX.out.cell 0
      have x1 := BX.out.cell 1
      have x2 := BX.out.cell 2
      have x3 := BX.out.cell 3
      have x4 := BX.out.cell 4
      go_enter Try.func9, Try.ntmps9
      go_wp2_with fail
      refine (con_Saving _).mono ?_
      rintro e w2 ⟨rfl, hl⟩
      replace LL := hide (LL.out.trans hl)
      replace BS := hide (BS.out.later hl)
      clear hl
      go_wp2_with (refine wpList_storeU rfl 28 (.tmp 7) (.tmp 23) rfl (w.heap.size + 1) 0 rfl (sc (5, 57, 0)) rfl Try.info_sense (sc_one _) _ _ BS.out (by simp) ?_)
      intro wz hz
      have BZ : Hid (Box wz (w.heap.size + 1) 28 (sc (5, 57, 0))) := by rw [hz.out]; exact BS.out.all _ rfl
      have LZ : Hid (Later w wz) := by rw [hz.out]; exact LL.out.setCells (Nat.le_succ _) _ _
      clear hz
      go_wp2
      refine bodyPost_ret (results_tmp_cell' rfl _ _ _ (w.heap.size + 1) 0 rfl _ _ (run_loadVar_mid _ _ _ _ (sc (5, 57, 0)) _ BZ.out.range Try.underlying28 rfl Try.info_sense) rfl) rfl ⟨_, by rw [HR.out], LZ.out, by rw [HR.out]; exact (Bs.nil _)⟩
  have hb3 : (bt == 3) = false := by simp [hbt]
  rcases (show op = 26 ∨ op = 90 by omega) with rfl | rfl
  · cases protect with
    | true => exact manY_26_true at_ n pg bt caching w hb3 hn hpg hbts
    | false => exact manY_26_false at_ n pg bt caching w hb3 hn hpg hbts
  · cases protect with
    | true => exact manY_90_true at_ n pg bt caching w hb3 hn hpg hbts
    | false => exact manY_90_false at_ n pg bt caching w hb3 hn hpg hbts
end Go.Proofs.Ytcjdodkbnhkbiaa

namespace Go.Proofs.Ytcjdodkbnhkbiaa
open Go.ChangeShapes Go.WideShapes Go.ChangeAt Go.RowKit
set_option linter.unusedVariables false
set_option linter.unusedSimpArgs false

/-! The landed mode: what comes behind a header. -/
def behR (l : List UInt8) (ten : Bool) : List UInt8 × Sns :=
  if l.length < hdN ten then ([], (5, 26, 0))
  else if hdM l ten ≠ 0 ∧ hdM l ten ≠ 8 then ([], (5, 38, 0))
  else if l.length < hdN ten + hdM l ten then ([], (5, 26, 0))
  else (l.drop (hdN ten + hdM l ten), (0, 0, 0))
theorem bigAt_ten (l : List UInt8) (h : 8 ≤ l.length) : bigAt l 6 2 = hdM l true := by
  have hh : holdsB l.length 6 2 = true := by simp [holdsB]; omega
  rw [bigAt, if_pos hh]
  show bigOf (seg l 6 2) = Bn l 7 + 256 * Bn l 6
  rw [seg_cons l 6 1 (by omega), seg_cons l 7 0 (by omega), seg_zero, Bn_get l 7 (by omega), Bn_get l 6 (by omega)]
  simp [bigOf]; omega
theorem bigAt_six (l : List UInt8) (h : 4 ≤ l.length) : bigAt l 3 1 = hdM l false := by
  have hh : holdsB l.length 3 1 = true := by simp [holdsB]; omega
  rw [bigAt, if_pos hh]
  show bigOf (seg l 3 1) = Bn l 3
  rw [seg_cons l 3 0 (by omega), seg_zero, Bn_get l 3 (by omega)]
  simp [bigOf]
set_option maxHeartbeats 2000000 in
theorem behind_true (v : Value) (l : List UInt8) (w : World) (h : Bs w v l) (hln : l.length ≤ 1000000) : Calls Try.prog 23 #[v, .bool true] w fun e w' => ∃ u, e = .returned (.tuple #[u, sval (behR l true).2]) ∧ Later w w' ∧ Bs w' u (behR l true).1 := by
  have HB := hide h
  obtain ⟨_, ad, cap, rfl, hcap, hd⟩ := h
  clear hd
  have BS : Hid (Box _ w.heap.size 28 (sc (0, 0, 0))) := Box.new w 28 #[.int .i64 0, .int .i64 0, .int .i64 0]
  have LL := hide ((Later.refl w).alloc (.cells #[.int .i64 0, .int .i64 0, .int .i64 0] 28))
  go_enter Try.func23, Try.ntmps23
  go_wp2_with fail
  generalize w.alloc (.cells #[.int .i64 0, .int .i64 0, .int .i64 0] 28) = w1 at *
  refine (headerSize_c true _).mono ?_
  rintro e w2 ⟨rfl, hw⟩
  have hw2 := hw.symm
  subst hw2
  clear hw
  by_cases h1 : l.length < 8
  · have HR : Hid (behR l true = ([], (5, 26, 0))) := by rw [Hid, behR, if_pos (show l.length < hdN true from h1)]
    go_wp2_with fail
    refine (con_Length _).mono ?_
    rintro e w2 ⟨rfl, hl⟩
    replace LL := hide (LL.out.trans hl)
    replace BS := hide (BS.out.later hl)
    clear hl
    go_wp2_with (refine wpList_storeU rfl 28 (.tmp 5) (.tmp 19) rfl w.heap.size 0 rfl (sc (5, 26, 0)) rfl Try.info_sense (sc_one _) _ _ BS.out (by simp) ?_)
    intro wz hz
    have BZ : Hid (Box wz w.heap.size 28 (sc (5, 26, 0))) := by rw [hz.out]; exact BS.out.all _ rfl
    have LZ : Hid (Later w wz) := by rw [hz.out]; exact LL.out.setCells (Nat.le_refl _) _ _
    clear hz
    go_wp2
    refine bodyPost_ret (results_tmp_cell' rfl _ _ _ w.heap.size 0 rfl _ _ (run_loadVar_mid _ _ _ _ (sc (5, 26, 0)) _ BZ.out.range Try.underlying28 rfl Try.info_sense) rfl) rfl ⟨_, by rw [HR.out], LZ.out, by rw [HR.out]; exact (Bs.nil _)⟩
  go_wp2_with fail
  refine (big_c 6 2 _ (HB.out.later LL.out)).mono ?_
  rintro e w2 ⟨rfl, hw⟩
  have hw2 := hw.symm
  subst hw2
  clear hw
  rw [bigAt_ten l (by omega)]
  replace HB := hide (HB.out.later LL.out)
  obtain ⟨M, hM⟩ : ∃ M, M = hdM l true := ⟨_, rfl⟩
  rw [← hM]
  have HM := hide hM
  clear hM
  by_cases hm0 : M = 0
  · subst hm0
    have HR : Hid (behR l true = (l.drop 8, (0, 0, 0))) := by rw [Hid, behR, if_neg (show ¬ l.length < hdN true from h1), if_neg (by rw [← HM.out]; simp), if_neg (by rw [← HM.out]; exact h1), ← HM.out]; rfl
    go_wp2_with (refine wpList_slice_lo Try.underlying26 Try.info1_u8 rfl (.tmp 45) (.tmp 46) rfl _ l.length (bv l) rfl HB.out.rw _ 8 rfl rfl (by omega) ?_)
    intro v5 h5
    have V5 : Hid (Bs w1 v5 (l.drop 8)) := by
      have := h5.out
      rw [bv_tail] at this
      exact this.bs.1
    clear h5
    go_wp2_with (refine wpList_storeU rfl 28 (.tmp 5) (.tmp 48) rfl w.heap.size 0 rfl (sc (0, 0, 0)) rfl Try.info_sense (sc_one _) _ _ BS.out (by simp) ?_)
    intro wz hz
    have BZ : Hid (Box wz w.heap.size 28 (sc (0, 0, 0))) := by rw [hz.out]; exact BS.out.all _ rfl
    have LZ : Hid (Later w wz) := by rw [hz.out]; exact LL.out.setCells (Nat.le_refl _) _ _
    have VZ := V5.out.setSns7 BS.out (sc (0, 0, 0)) 0
    rw [← hz.out] at VZ
    clear hz
    go_wp2
    refine bodyPost_ret (results_tmp_cell' rfl _ _ _ w.heap.size 0 rfl _ _ (run_loadVar_mid _ _ _ _ (sc (0, 0, 0)) _ BZ.out.range Try.underlying28 rfl Try.info_sense) rfl) rfl ⟨_, by rw [HR.out], LZ.out, by rw [HR.out]; exact VZ⟩
  by_cases hm8 : M = 8
  · subst hm8
    clear hm0
    by_cases h2 : l.length < 8 + 8
    · have HR : Hid (behR l true = ([], (5, 26, 0))) := by rw [Hid, behR, if_neg (show ¬ l.length < hdN true from h1), if_neg (by rw [← HM.out]; simp), if_pos (by rw [← HM.out]; exact h2)]
      go_wp2_with fail
      refine (con_Length _).mono ?_
      rintro e w2 ⟨rfl, hl⟩
      replace LL := hide (LL.out.trans hl)
      replace BS := hide (BS.out.later hl)
      clear hl
      go_wp2_with (refine wpList_storeU rfl 28 (.tmp 5) (.tmp 44) rfl w.heap.size 0 rfl (sc (5, 26, 0)) rfl Try.info_sense (sc_one _) _ _ BS.out (by simp) ?_)
      intro wz hz
      have BZ : Hid (Box wz w.heap.size 28 (sc (5, 26, 0))) := by rw [hz.out]; exact BS.out.all _ rfl
      have LZ : Hid (Later w wz) := by rw [hz.out]; exact LL.out.setCells (Nat.le_refl _) _ _
      clear hz
      go_wp2
      refine bodyPost_ret (results_tmp_cell' rfl _ _ _ w.heap.size 0 rfl _ _ (run_loadVar_mid _ _ _ _ (sc (5, 26, 0)) _ BZ.out.range Try.underlying28 rfl Try.info_sense) rfl) rfl ⟨_, by rw [HR.out], LZ.out, by rw [HR.out]; exact (Bs.nil _)⟩
    have HR : Hid (behR l true = (l.drop 16, (0, 0, 0))) := by rw [Hid, behR, if_neg (show ¬ l.length < hdN true from h1), if_neg (by rw [← HM.out]; simp), if_neg (by rw [← HM.out]; exact h2), ← HM.out]; rfl
    go_wp2_with (refine wpList_slice_lo Try.underlying26 Try.info1_u8 rfl (.tmp 45) (.tmp 46) rfl _ l.length (bv l) rfl HB.out.rw _ 16 rfl rfl (by omega) ?_)
    intro v5 h5
    have V5 : Hid (Bs w1 v5 (l.drop 16)) := by
      have := h5.out
      rw [bv_tail] at this
      exact this.bs.1
    clear h5
    go_wp2_with (refine wpList_storeU rfl 28 (.tmp 5) (.tmp 48) rfl w.heap.size 0 rfl (sc (0, 0, 0)) rfl Try.info_sense (sc_one _) _ _ BS.out (by simp) ?_)
    intro wz hz
    have BZ : Hid (Box wz w.heap.size 28 (sc (0, 0, 0))) := by rw [hz.out]; exact BS.out.all _ rfl
    have LZ : Hid (Later w wz) := by rw [hz.out]; exact LL.out.setCells (Nat.le_refl _) _ _
    have VZ := V5.out.setSns7 BS.out (sc (0, 0, 0)) 0
    rw [← hz.out] at VZ
    clear hz
    go_wp2
    refine bodyPost_ret (results_tmp_cell' rfl _ _ _ w.heap.size 0 rfl _ _ (run_loadVar_mid _ _ _ _ (sc (0, 0, 0)) _ BZ.out.range Try.underlying28 rfl Try.info_sense) rfl) rfl ⟨_, by rw [HR.out], LZ.out, by rw [HR.out]; exact VZ⟩
  have HR : Hid (behR l true = ([], (5, 38, 0))) := by rw [Hid, behR, if_neg (show ¬ l.length < hdN true from h1), if_pos (by rw [← HM.out]; exact ⟨hm0, hm8⟩)]
  have e0 : ((M : Int) != 0) = true := by simp; omega
  have e8 : ((M : Int) != 8) = true := by simp; omega
  clear hm0 hm8
  go_wp2_with fail
  refine (con_Parameter _).mono ?_
  rintro e w2 ⟨rfl, hl⟩
  replace LL := hide (LL.out.trans hl)
  replace BS := hide (BS.out.later hl)
  clear hl
  go_wp2_with (refine wpList_storeU rfl 28 (.tmp 5) (.tmp 35) rfl w.heap.size 0 rfl (sc (5, 38, 0)) rfl Try.info_sense (sc_one _) _ _ BS.out (by simp) ?_)
  intro wz hz
  have BZ : Hid (Box wz w.heap.size 28 (sc (5, 38, 0))) := by rw [hz.out]; exact BS.out.all _ rfl
  have LZ : Hid (Later w wz) := by rw [hz.out]; exact LL.out.setCells (Nat.le_refl _) _ _
  clear hz
  go_wp2
  refine bodyPost_ret (results_tmp_cell' rfl _ _ _ w.heap.size 0 rfl _ _ (run_loadVar_mid _ _ _ _ (sc (5, 38, 0)) _ BZ.out.range Try.underlying28 rfl Try.info_sense) rfl) rfl ⟨_, by rw [HR.out], LZ.out, by rw [HR.out]; exact (Bs.nil _)⟩
set_option maxHeartbeats 2000000 in
theorem behind_false (v : Value) (l : List UInt8) (w : World) (h : Bs w v l) (hln : l.length ≤ 1000000) : Calls Try.prog 23 #[v, .bool false] w fun e w' => ∃ u, e = .returned (.tuple #[u, sval (behR l false).2]) ∧ Later w w' ∧ Bs w' u (behR l false).1 := by
  have HB := hide h
  obtain ⟨_, ad, cap, rfl, hcap, hd⟩ := h
  clear hd
  have BS : Hid (Box _ w.heap.size 28 (sc (0, 0, 0))) := Box.new w 28 #[.int .i64 0, .int .i64 0, .int .i64 0]
  have LL := hide ((Later.refl w).alloc (.cells #[.int .i64 0, .int .i64 0, .int .i64 0] 28))
  go_enter Try.func23, Try.ntmps23
  go_wp2_with fail
  generalize w.alloc (.cells #[.int .i64 0, .int .i64 0, .int .i64 0] 28) = w1 at *
  refine (headerSize_c false _).mono ?_
  rintro e w2 ⟨rfl, hw⟩
  have hw2 := hw.symm
  subst hw2
  clear hw
  by_cases h1 : l.length < 4
  · have HR : Hid (behR l false = ([], (5, 26, 0))) := by rw [Hid, behR, if_pos (show l.length < hdN false from h1)]
    go_wp2_with fail
    refine (con_Length _).mono ?_
    rintro e w2 ⟨rfl, hl⟩
    replace LL := hide (LL.out.trans hl)
    replace BS := hide (BS.out.later hl)
    clear hl
    go_wp2_with (refine wpList_storeU rfl 28 (.tmp 5) (.tmp 19) rfl w.heap.size 0 rfl (sc (5, 26, 0)) rfl Try.info_sense (sc_one _) _ _ BS.out (by simp) ?_)
    intro wz hz
    have BZ : Hid (Box wz w.heap.size 28 (sc (5, 26, 0))) := by rw [hz.out]; exact BS.out.all _ rfl
    have LZ : Hid (Later w wz) := by rw [hz.out]; exact LL.out.setCells (Nat.le_refl _) _ _
    clear hz
    go_wp2
    refine bodyPost_ret (results_tmp_cell' rfl _ _ _ w.heap.size 0 rfl _ _ (run_loadVar_mid _ _ _ _ (sc (5, 26, 0)) _ BZ.out.range Try.underlying28 rfl Try.info_sense) rfl) rfl ⟨_, by rw [HR.out], LZ.out, by rw [HR.out]; exact (Bs.nil _)⟩
  go_wp2_with fail
  refine (big_c 3 1 _ (HB.out.later LL.out)).mono ?_
  rintro e w2 ⟨rfl, hw⟩
  have hw2 := hw.symm
  subst hw2
  clear hw
  rw [bigAt_six l (by omega)]
  replace HB := hide (HB.out.later LL.out)
  obtain ⟨M, hM⟩ : ∃ M, M = hdM l false := ⟨_, rfl⟩
  rw [← hM]
  have HM := hide hM
  clear hM
  by_cases hm0 : M = 0
  · subst hm0
    have HR : Hid (behR l false = (l.drop 4, (0, 0, 0))) := by rw [Hid, behR, if_neg (show ¬ l.length < hdN false from h1), if_neg (by rw [← HM.out]; simp), if_neg (by rw [← HM.out]; exact h1), ← HM.out]; rfl
    go_wp2_with (refine wpList_slice_lo Try.underlying26 Try.info1_u8 rfl (.tmp 45) (.tmp 46) rfl _ l.length (bv l) rfl HB.out.rw _ 4 rfl rfl (by omega) ?_)
    intro v5 h5
    have V5 : Hid (Bs w1 v5 (l.drop 4)) := by
      have := h5.out
      rw [bv_tail] at this
      exact this.bs.1
    clear h5
    go_wp2_with (refine wpList_storeU rfl 28 (.tmp 5) (.tmp 48) rfl w.heap.size 0 rfl (sc (0, 0, 0)) rfl Try.info_sense (sc_one _) _ _ BS.out (by simp) ?_)
    intro wz hz
    have BZ : Hid (Box wz w.heap.size 28 (sc (0, 0, 0))) := by rw [hz.out]; exact BS.out.all _ rfl
    have LZ : Hid (Later w wz) := by rw [hz.out]; exact LL.out.setCells (Nat.le_refl _) _ _
    have VZ := V5.out.setSns7 BS.out (sc (0, 0, 0)) 0
    rw [← hz.out] at VZ
    clear hz
    go_wp2
    refine bodyPost_ret (results_tmp_cell' rfl _ _ _ w.heap.size 0 rfl _ _ (run_loadVar_mid _ _ _ _ (sc (0, 0, 0)) _ BZ.out.range Try.underlying28 rfl Try.info_sense) rfl) rfl ⟨_, by rw [HR.out], LZ.out, by rw [HR.out]; exact VZ⟩
  by_cases hm8 : M = 8
  · subst hm8
    clear hm0
    by_cases h2 : l.length < 4 + 8
    · have HR : Hid (behR l false = ([], (5, 26, 0))) := by rw [Hid, behR, if_neg (show ¬ l.length < hdN false from h1), if_neg (by rw [← HM.out]; simp), if_pos (by rw [← HM.out]; exact h2)]
      go_wp2_with fail
      refine (con_Length _).mono ?_
      rintro e w2 ⟨rfl, hl⟩
      replace LL := hide (LL.out.trans hl)
      replace BS := hide (BS.out.later hl)
      clear hl
      go_wp2_with (refine wpList_storeU rfl 28 (.tmp 5) (.tmp 44) rfl w.heap.size 0 rfl (sc (5, 26, 0)) rfl Try.info_sense (sc_one _) _ _ BS.out (by simp) ?_)
      intro wz hz
      have BZ : Hid (Box wz w.heap.size 28 (sc (5, 26, 0))) := by rw [hz.out]; exact BS.out.all _ rfl
      have LZ : Hid (Later w wz) := by rw [hz.out]; exact LL.out.setCells (Nat.le_refl _) _ _
      clear hz
      go_wp2
      refine bodyPost_ret (results_tmp_cell' rfl _ _ _ w.heap.size 0 rfl _ _ (run_loadVar_mid _ _ _ _ (sc (5, 26, 0)) _ BZ.out.range Try.underlying28 rfl Try.info_sense) rfl) rfl ⟨_, by rw [HR.out], LZ.out, by rw [HR.out]; exact (Bs.nil _)⟩
    have HR : Hid (behR l false = (l.drop 12, (0, 0, 0))) := by rw [Hid, behR, if_neg (show ¬ l.length < hdN false from h1), if_neg (by rw [← HM.out]; simp), if_neg (by rw [← HM.out]; exact h2), ← HM.out]; rfl
    go_wp2_with (refine wpList_slice_lo Try.underlying26 Try.info1_u8 rfl (.tmp 45) (.tmp 46) rfl _ l.length (bv l) rfl HB.out.rw _ 12 rfl rfl (by omega) ?_)
    intro v5 h5
    have V5 : Hid (Bs w1 v5 (l.drop 12)) := by
      have := h5.out
      rw [bv_tail] at this
      exact this.bs.1
    clear h5
    go_wp2_with (refine wpList_storeU rfl 28 (.tmp 5) (.tmp 48) rfl w.heap.size 0 rfl (sc (0, 0, 0)) rfl Try.info_sense (sc_one _) _ _ BS.out (by simp) ?_)
    intro wz hz
    have BZ : Hid (Box wz w.heap.size 28 (sc (0, 0, 0))) := by rw [hz.out]; exact BS.out.all _ rfl
    have LZ : Hid (Later w wz) := by rw [hz.out]; exact LL.out.setCells (Nat.le_refl _) _ _
    have VZ := V5.out.setSns7 BS.out (sc (0, 0, 0)) 0
    rw [← hz.out] at VZ
    clear hz
    go_wp2
    refine bodyPost_ret (results_tmp_cell' rfl _ _ _ w.heap.size 0 rfl _ _ (run_loadVar_mid _ _ _ _ (sc (0, 0, 0)) _ BZ.out.range Try.underlying28 rfl Try.info_sense) rfl) rfl ⟨_, by rw [HR.out], LZ.out, by rw [HR.out]; exact VZ⟩
  have HR : Hid (behR l false = ([], (5, 38, 0))) := by rw [Hid, behR, if_neg (show ¬ l.length < hdN false from h1), if_pos (by rw [← HM.out]; exact ⟨hm0, hm8⟩)]
  have e0 : ((M : Int) != 0) = true := by simp; omega
  have e8 : ((M : Int) != 8) = true := by simp; omega
  clear hm0 hm8
  go_wp2_with fail
  refine (con_Parameter _).mono ?_
  rintro e w2 ⟨rfl, hl⟩
  replace LL := hide (LL.out.trans hl)
  replace BS := hide (BS.out.later hl)
  clear hl
  go_wp2_with (refine wpList_storeU rfl 28 (.tmp 5) (.tmp 35) rfl w.heap.size 0 rfl (sc (5, 38, 0)) rfl Try.info_sense (sc_one _) _ _ BS.out (by simp) ?_)
  intro wz hz
  have BZ : Hid (Box wz w.heap.size 28 (sc (5, 38, 0))) := by rw [hz.out]; exact BS.out.all _ rfl
  have LZ : Hid (Later w wz) := by rw [hz.out]; exact LL.out.setCells (Nat.le_refl _) _ _
  clear hz
  go_wp2
  refine bodyPost_ret (results_tmp_cell' rfl _ _ _ w.heap.size 0 rfl _ _ (run_loadVar_mid _ _ _ _ (sc (5, 38, 0)) _ BZ.out.range Try.underlying28 rfl Try.info_sense) rfl) rfl ⟨_, by rw [HR.out], LZ.out, by rw [HR.out]; exact (Bs.nil _)⟩
theorem behind_c (v : Value) (l : List UInt8) (ten : Bool) (w : World) (h : Bs w v l) (hln : l.length ≤ 1000000) : Calls Try.prog 23 #[v, .bool ten] w fun e w' => ∃ u, e = .returned (.tuple #[u, sval (behR l ten).2]) ∧ Later w w' ∧ Bs w' u (behR l ten).1 := by
  cases ten with
  | true => exact behind_true v l w h hln
  | false => exact behind_false v l w h hln
end Go.Proofs.Ytcjdodkbnhkbiaa
