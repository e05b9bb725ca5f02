import Derived.Test.YtfakboehmcimpaaGreatMBD
import Derived.Test.YtfakboehmcimpaaGreatWP11h
import Derived.Test.YtfakboehmcimpaaGreatMBC
namespace Go.Proofs.YtfakboehmcimpaaGreat
open Go.ChangeShapes Go.WideShapes Go.ChangeAt Go.RowKit
set_option linter.unusedVariables false
set_option maxRecDepth 4000
set_option linter.unusedSimpArgs false
/-! The landed mode: Answer. -/
set_option maxHeartbeats 4000000 in
theorem manY_26_true (at_ : Nat) (n pg bt : Int) (caching : Bool) (w : World) (hb3 : (bt == 3) = false) (hn : In64 n) (hpg : In64 pg) (hbts : In64 bt) : Calls Tryz.prog 23 #[cval (26, at_, n, pg, bt), .bool caching, .bool true] w fun e w' => ∃ v, e = .returned (.tuple #[v, sval (mansR (26, at_, n, pg, bt) caching true).2]) ∧ Later w w' ∧ Bs w' v (mansR (26, at_, n, pg, bt) caching true).1 := by
  have hbt : bt ≠ 3 := by simpa using hb3
  have HN := hide hn
  have HPg := hide hpg
  have HBt := hide hbts
  clear hn hpg hbts
  have BX := hide ((Box.new w 36 #[.int .i64 26, .int .u64 (at_ : Int), .int .i64 n, .int .i64 pg, .int .i64 bt]).alloc (.cells #[.int .i64 0, .int .i64 0, .int .i64 0] 30))
  have BS : Hid (Box _ (w.heap.size + 1) 30 (sc (0, 0, 0))) := Box.new' (w.alloc (.cells #[.int .i64 26, .int .u64 (at_ : Int), .int .i64 n, .int .i64 pg, .int .i64 bt] 36)) 30 #[.int .i64 0, .int .i64 0, .int .i64 0] _ rfl _ (by simp)
  have LL := hide (((Later.refl w).alloc (.cells #[.int .i64 26, .int .u64 (at_ : Int), .int .i64 n, .int .i64 pg, .int .i64 bt] 36)).alloc (.cells #[.int .i64 0, .int .i64 0, .int .i64 0] 30))
  have x0 := BX.out.cell 0
  have x1 := BX.out.cell 1
  have x2 := BX.out.cell 2
  have x3 := BX.out.cell 3
  have x4 := BX.out.cell 4
  go_enter Tryz.func23, Tryz.ntmps23
  go_wp2_with fail
  generalize ((w.alloc (.cells #[.int .i64 26, .int .u64 (at_ : Int), .int .i64 n, .int .i64 pg, .int .i64 bt] 36)).alloc (.cells #[.int .i64 0, .int .i64 0, .int .i64 0] 30)) = w1 at *
  refine (mpage_c pg bt caching HPg.out HBt.out _).mono ?_
  rintro e w2 ⟨vp, rfl, hl, hp⟩
  replace LL := hide (LL.out.trans hl)
  replace BX := hide (BX.out.later hl)
  replace BS := hide (BS.out.later hl)
  have VP := hide hp
  clear hl hp x0 x1 x2 x3 x4
  have x0 := BX.out.cell 0
  have x1 := BX.out.cell 1
  have x2 := BX.out.cell 2
  have x3 := BX.out.cell 3
  have x4 := BX.out.cell 4
  cases hmp : mpB pg with
  | false =>
    have HR : Hid (mansR (26, at_, n, pg, bt) caching true = ([], (5, 36, 0))) := by simp [Hid, mansR, hbt, hmp]
    clear hbt hmp
    go_wp2_with fail
    refine (con_Field _).mono ?_
    rintro e w2 ⟨rfl, hl⟩
    replace LL := hide (LL.out.trans hl)
    replace BS := hide (BS.out.later hl)
    clear hl
    go_wp2_with (refine wpList_storeU rfl 30 (.tmp 7) (.tmp 35) rfl (w.heap.size + 1) 0 rfl (sc (5, 36, 0)) rfl Tryz.info_sense (sc_one _) _ _ BS.out (by simp) ?_)
    intro wz hz
    have BZ : Hid (Box wz (w.heap.size + 1) 30 (sc (5, 36, 0))) := by rw [hz.out]; exact BS.out.all _ rfl
    have LZ : Hid (Later w wz) := by rw [hz.out]; exact LL.out.setCells (Nat.le_succ _) _ _
    clear hz
    go_wp2
    refine bodyPost_ret (results_tmp_cell' rfl _ _ _ (w.heap.size + 1) 0 rfl _ _ (run_loadVar_mid _ _ _ _ (sc (5, 36, 0)) _ BZ.out.range Tryz.underlying30 rfl Tryz.info_sense) rfl) rfl ⟨_, by rw [HR.out], LZ.out, by rw [HR.out]; exact (Bs.nil _)⟩
  | true =>
    obtain ⟨L, hL⟩ : ∃ L, L = mpL pg bt caching := ⟨_, rfl⟩
    have HR : Hid (mansR (26, at_, n, pg, bt) caching true = (cutL (mhead 26 L.length true ++ L) n, (0, 0, 0))) := by simp [Hid, mansR, hbt, hmp, hL]
    have hL32 : L.length ≤ 32 := by rw [hL]; exact mpL_len _ _ _
    rw [← hL] at VP
    clear hL hmp hbt
    have VP2 := VP.out
    obtain ⟨hv1, pa, pc, rfl, hv2, hv3⟩ := VP2
    clear hv1 hv2 hv3
    obtain ⟨k, hk⟩ : ∃ k, k = L.length := ⟨_, rfl⟩
    rw [← hk] at VP HR hL32 ⊢
    have HK := hide hk
    clear hk
    go_wp2_with fail
    refine (header_false_true k hL32 _).mono ?_
    rintro e w3 ⟨g, rfl, hl, hg, hB⟩
    have L3 := hide hl
    have G3 := hide hg
    have B3 := hide hB
    clear hl hg hB x0 x1 x2 x3 x4
    go_wp2_with (at_builtin; refine wpList_append_bs rfl (.tmp 42) (.tmp 43) rfl w2.heap.size _ 4 (mhead 26 k true) rfl (owns_box B3.out rfl (by decide) G3.out) _ L rfl (VP.out.later L3.out) (by have := HK.out; omega) L3.out.size w2 L3.out ?_)
    intro v4 w4 ho hb hg
    have V4 := hide (Bs.of_owns ho).1
    have L4 : Later w2 w4 := hb
    replace LL := hide (LL.out.trans L4)
    replace BX := hide (BX.out.later L4)
    replace BS := hide (BS.out.later L4)
    clear ho hb hg L4 L3 B3 G3 VP
    have x0 := BX.out.cell 0
    have x1 := BX.out.cell 1
    have x2 := BX.out.cell 2
    have x3 := BX.out.cell 3
    have x4 := BX.out.cell 4
    go_wp2_with fail
    refine (cut7_c _ _ n _ V4.out (by have := HK.out; simp [mhead]; omega) HN.out).mono ?_
    rintro e w5 ⟨v5, rfl, hl, hb⟩
    replace LL := hide (LL.out.trans hl)
    replace BS := hide (BS.out.later hl)
    have V5 := hide hb
    clear hl hb V4 BX x0 x1 x2 x3 x4
    go_wp2_with (refine wpList_storeU rfl 30 (.tmp 7) (.tmp 49) rfl (w.heap.size + 1) 0 rfl (sc (0, 0, 0)) rfl Tryz.info_sense (sc_one _) _ _ BS.out (by simp) ?_)
    intro wz hz
    have BZ : Hid (Box wz (w.heap.size + 1) 30 (sc (0, 0, 0))) := by rw [hz.out]; exact BS.out.all _ rfl
    have LZ : Hid (Later w wz) := by rw [hz.out]; exact LL.out.setCells (Nat.le_succ _) _ _
    have VZ := V5.out.setSns7 BS.out (sc (0, 0, 0)) 0
    rw [← hz.out] at VZ
    clear hz
    go_wp2
    refine bodyPost_ret (results_tmp_cell' rfl _ _ _ (w.heap.size + 1) 0 rfl _ _ (run_loadVar_mid _ _ _ _ (sc (0, 0, 0)) _ BZ.out.range Tryz.underlying30 rfl Tryz.info_sense) rfl) rfl ⟨_, by rw [HR.out], LZ.out, by rw [HR.out]; exact VZ⟩
set_option maxHeartbeats 4000000 in
theorem manY_90_true (at_ : Nat) (n pg bt : Int) (caching : Bool) (w : World) (hb3 : (bt == 3) = false) (hn : In64 n) (hpg : In64 pg) (hbts : In64 bt) : Calls Tryz.prog 23 #[cval (90, at_, n, pg, bt), .bool caching, .bool true] w fun e w' => ∃ v, e = .returned (.tuple #[v, sval (mansR (90, at_, n, pg, bt) caching true).2]) ∧ Later w w' ∧ Bs w' v (mansR (90, at_, n, pg, bt) caching true).1 := by
  have hbt : bt ≠ 3 := by simpa using hb3
  have HN := hide hn
  have HPg := hide hpg
  have HBt := hide hbts
  clear hn hpg hbts
  have BX := hide ((Box.new w 36 #[.int .i64 90, .int .u64 (at_ : Int), .int .i64 n, .int .i64 pg, .int .i64 bt]).alloc (.cells #[.int .i64 0, .int .i64 0, .int .i64 0] 30))
  have BS : Hid (Box _ (w.heap.size + 1) 30 (sc (0, 0, 0))) := Box.new' (w.alloc (.cells #[.int .i64 90, .int .u64 (at_ : Int), .int .i64 n, .int .i64 pg, .int .i64 bt] 36)) 30 #[.int .i64 0, .int .i64 0, .int .i64 0] _ rfl _ (by simp)
  have LL := hide (((Later.refl w).alloc (.cells #[.int .i64 90, .int .u64 (at_ : Int), .int .i64 n, .int .i64 pg, .int .i64 bt] 36)).alloc (.cells #[.int .i64 0, .int .i64 0, .int .i64 0] 30))
  have x0 := BX.out.cell 0
  have x1 := BX.out.cell 1
  have x2 := BX.out.cell 2
  have x3 := BX.out.cell 3
  have x4 := BX.out.cell 4
  go_enter Tryz.func23, Tryz.ntmps23
  go_wp2_with fail
  generalize ((w.alloc (.cells #[.int .i64 90, .int .u64 (at_ : Int), .int .i64 n, .int .i64 pg, .int .i64 bt] 36)).alloc (.cells #[.int .i64 0, .int .i64 0, .int .i64 0] 30)) = w1 at *
  refine (mpage_c pg bt caching HPg.out HBt.out _).mono ?_
  rintro e w2 ⟨vp, rfl, hl, hp⟩
  replace LL := hide (LL.out.trans hl)
  replace BX := hide (BX.out.later hl)
  replace BS := hide (BS.out.later hl)
  have VP := hide hp
  clear hl hp x0 x1 x2 x3 x4
  have x0 := BX.out.cell 0
  have x1 := BX.out.cell 1
  have x2 := BX.out.cell 2
  have x3 := BX.out.cell 3
  have x4 := BX.out.cell 4
  cases hmp : mpB pg with
  | false =>
    have HR : Hid (mansR (90, at_, n, pg, bt) caching true = ([], (5, 36, 0))) := by simp [Hid, mansR, hbt, hmp]
    clear hbt hmp
    go_wp2_with fail
    refine (con_Field _).mono ?_
    rintro e w2 ⟨rfl, hl⟩
    replace LL := hide (LL.out.trans hl)
    replace BS := hide (BS.out.later hl)
    clear hl
    go_wp2_with (refine wpList_storeU rfl 30 (.tmp 7) (.tmp 35) rfl (w.heap.size + 1) 0 rfl (sc (5, 36, 0)) rfl Tryz.info_sense (sc_one _) _ _ BS.out (by simp) ?_)
    intro wz hz
    have BZ : Hid (Box wz (w.heap.size + 1) 30 (sc (5, 36, 0))) := by rw [hz.out]; exact BS.out.all _ rfl
    have LZ : Hid (Later w wz) := by rw [hz.out]; exact LL.out.setCells (Nat.le_succ _) _ _
    clear hz
    go_wp2
    refine bodyPost_ret (results_tmp_cell' rfl _ _ _ (w.heap.size + 1) 0 rfl _ _ (run_loadVar_mid _ _ _ _ (sc (5, 36, 0)) _ BZ.out.range Tryz.underlying30 rfl Tryz.info_sense) rfl) rfl ⟨_, by rw [HR.out], LZ.out, by rw [HR.out]; exact (Bs.nil _)⟩
  | true =>
    obtain ⟨L, hL⟩ : ∃ L, L = mpL pg bt caching := ⟨_, rfl⟩
    have HR : Hid (mansR (90, at_, n, pg, bt) caching true = (cutL (mhead 90 L.length true ++ L) n, (0, 0, 0))) := by simp [Hid, mansR, hbt, hmp, hL]
    have hL32 : L.length ≤ 32 := by rw [hL]; exact mpL_len _ _ _
    rw [← hL] at VP
    clear hL hmp hbt
    have VP2 := VP.out
    obtain ⟨hv1, pa, pc, rfl, hv2, hv3⟩ := VP2
    clear hv1 hv2 hv3
    obtain ⟨k, hk⟩ : ∃ k, k = L.length := ⟨_, rfl⟩
    rw [← hk] at VP HR hL32 ⊢
    have HK := hide hk
    clear hk
    go_wp2_with fail
    refine (header_true_true k hL32 _).mono ?_
    rintro e w3 ⟨g, rfl, hl, hg, hB⟩
    have L3 := hide hl
    have G3 := hide hg
    have B3 := hide hB
    clear hl hg hB x0 x1 x2 x3 x4
    go_wp2_with (at_builtin; refine wpList_append_bs rfl (.tmp 42) (.tmp 43) rfl w2.heap.size _ 8 (mhead 90 k true) rfl (owns_box B3.out rfl (by decide) G3.out) _ L rfl (VP.out.later L3.out) (by have := HK.out; omega) L3.out.size w2 L3.out ?_)
    intro v4 w4 ho hb hg
    have V4 := hide (Bs.of_owns ho).1
    have L4 : Later w2 w4 := hb
    replace LL := hide (LL.out.trans L4)
    replace BX := hide (BX.out.later L4)
    replace BS := hide (BS.out.later L4)
    clear ho hb hg L4 L3 B3 G3 VP
    have x0 := BX.out.cell 0
    have x1 := BX.out.cell 1
    have x2 := BX.out.cell 2
    have x3 := BX.out.cell 3
    have x4 := BX.out.cell 4
    go_wp2_with fail
    refine (cut7_c _ _ n _ V4.out (by have := HK.out; simp [mhead]; omega) HN.out).mono ?_
    rintro e w5 ⟨v5, rfl, hl, hb⟩
    replace LL := hide (LL.out.trans hl)
    replace BS := hide (BS.out.later hl)
    have V5 := hide hb
    clear hl hb V4 BX x0 x1 x2 x3 x4
    go_wp2_with (refine wpList_storeU rfl 30 (.tmp 7) (.tmp 49) rfl (w.heap.size + 1) 0 rfl (sc (0, 0, 0)) rfl Tryz.info_sense (sc_one _) _ _ BS.out (by simp) ?_)
    intro wz hz
    have BZ : Hid (Box wz (w.heap.size + 1) 30 (sc (0, 0, 0))) := by rw [hz.out]; exact BS.out.all _ rfl
    have LZ : Hid (Later w wz) := by rw [hz.out]; exact LL.out.setCells (Nat.le_succ _) _ _
    have VZ := V5.out.setSns7 BS.out (sc (0, 0, 0)) 0
    rw [← hz.out] at VZ
    clear hz
    go_wp2
    refine bodyPost_ret (results_tmp_cell' rfl _ _ _ (w.heap.size + 1) 0 rfl _ _ (run_loadVar_mid _ _ _ _ (sc (0, 0, 0)) _ BZ.out.range Tryz.underlying30 rfl Tryz.info_sense) rfl) rfl ⟨_, by rw [HR.out], LZ.out, by rw [HR.out]; exact VZ⟩
set_option maxHeartbeats 4000000 in
theorem manY_26_false (at_ : Nat) (n pg bt : Int) (caching : Bool) (w : World) (hb3 : (bt == 3) = false) (hn : In64 n) (hpg : In64 pg) (hbts : In64 bt) : Calls Tryz.prog 23 #[cval (26, at_, n, pg, bt), .bool caching, .bool false] w fun e w' => ∃ v, e = .returned (.tuple #[v, sval (mansR (26, at_, n, pg, bt) caching false).2]) ∧ Later w w' ∧ Bs w' v (mansR (26, at_, n, pg, bt) caching false).1 := by
  have hbt : bt ≠ 3 := by simpa using hb3
  have HN := hide hn
  have HPg := hide hpg
  have HBt := hide hbts
  clear hn hpg hbts
  have BX := hide ((Box.new w 36 #[.int .i64 26, .int .u64 (at_ : Int), .int .i64 n, .int .i64 pg, .int .i64 bt]).alloc (.cells #[.int .i64 0, .int .i64 0, .int .i64 0] 30))
  have BS : Hid (Box _ (w.heap.size + 1) 30 (sc (0, 0, 0))) := Box.new' (w.alloc (.cells #[.int .i64 26, .int .u64 (at_ : Int), .int .i64 n, .int .i64 pg, .int .i64 bt] 36)) 30 #[.int .i64 0, .int .i64 0, .int .i64 0] _ rfl _ (by simp)
  have LL := hide (((Later.refl w).alloc (.cells #[.int .i64 26, .int .u64 (at_ : Int), .int .i64 n, .int .i64 pg, .int .i64 bt] 36)).alloc (.cells #[.int .i64 0, .int .i64 0, .int .i64 0] 30))
  have x0 := BX.out.cell 0
  have x1 := BX.out.cell 1
  have x2 := BX.out.cell 2
  have x3 := BX.out.cell 3
  have x4 := BX.out.cell 4
  go_enter Tryz.func23, Tryz.ntmps23
  go_wp2_with fail
  generalize ((w.alloc (.cells #[.int .i64 26, .int .u64 (at_ : Int), .int .i64 n, .int .i64 pg, .int .i64 bt] 36)).alloc (.cells #[.int .i64 0, .int .i64 0, .int .i64 0] 30)) = w1 at *
  refine (mpage_c pg bt caching HPg.out HBt.out _).mono ?_
  rintro e w2 ⟨vp, rfl, hl, hp⟩
  replace LL := hide (LL.out.trans hl)
  replace BX := hide (BX.out.later hl)
  replace BS := hide (BS.out.later hl)
  have VP := hide hp
  clear hl hp x0 x1 x2 x3 x4
  have x0 := BX.out.cell 0
  have x1 := BX.out.cell 1
  have x2 := BX.out.cell 2
  have x3 := BX.out.cell 3
  have x4 := BX.out.cell 4
  cases hmp : mpB pg with
  | false =>
    have HR : Hid (mansR (26, at_, n, pg, bt) caching false = ([], (5, 36, 0))) := by simp [Hid, mansR, hbt, hmp]
    clear hbt hmp
    go_wp2_with fail
    refine (con_Field _).mono ?_
    rintro e w2 ⟨rfl, hl⟩
    replace LL := hide (LL.out.trans hl)
    replace BS := hide (BS.out.later hl)
    clear hl
    go_wp2_with (refine wpList_storeU rfl 30 (.tmp 7) (.tmp 35) rfl (w.heap.size + 1) 0 rfl (sc (5, 36, 0)) rfl Tryz.info_sense (sc_one _) _ _ BS.out (by simp) ?_)
    intro wz hz
    have BZ : Hid (Box wz (w.heap.size + 1) 30 (sc (5, 36, 0))) := by rw [hz.out]; exact BS.out.all _ rfl
    have LZ : Hid (Later w wz) := by rw [hz.out]; exact LL.out.setCells (Nat.le_succ _) _ _
    clear hz
    go_wp2
    refine bodyPost_ret (results_tmp_cell' rfl _ _ _ (w.heap.size + 1) 0 rfl _ _ (run_loadVar_mid _ _ _ _ (sc (5, 36, 0)) _ BZ.out.range Tryz.underlying30 rfl Tryz.info_sense) rfl) rfl ⟨_, by rw [HR.out], LZ.out, by rw [HR.out]; exact (Bs.nil _)⟩
  | true =>
    obtain ⟨L, hL⟩ : ∃ L, L = mpL pg bt caching := ⟨_, rfl⟩
    have HR : Hid (mansR (26, at_, n, pg, bt) caching false = (cutL (mhead 26 L.length false ++ L) n, (0, 0, 0))) := by simp [Hid, mansR, hbt, hmp, hL]
    have hL32 : L.length ≤ 32 := by rw [hL]; exact mpL_len _ _ _
    rw [← hL] at VP
    clear hL hmp hbt
    have VP2 := VP.out
    obtain ⟨hv1, pa, pc, rfl, hv2, hv3⟩ := VP2
    clear hv1 hv2 hv3
    obtain ⟨k, hk⟩ : ∃ k, k = L.length := ⟨_, rfl⟩
    rw [← hk] at VP HR hL32 ⊢
    have HK := hide hk
    clear hk
    go_wp2_with fail
    refine (header_false_false k hL32 _).mono ?_
    rintro e w3 ⟨g, rfl, hl, hg, hB⟩
    have L3 := hide hl
    have G3 := hide hg
    have B3 := hide hB
    clear hl hg hB x0 x1 x2 x3 x4
    go_wp2_with (at_builtin; refine wpList_append_bs rfl (.tmp 42) (.tmp 43) rfl w2.heap.size _ 4 (mhead 26 k false) rfl (owns_box B3.out rfl (by decide) G3.out) _ L rfl (VP.out.later L3.out) (by have := HK.out; omega) L3.out.size w2 L3.out ?_)
    intro v4 w4 ho hb hg
    have V4 := hide (Bs.of_owns ho).1
    have L4 : Later w2 w4 := hb
    replace LL := hide (LL.out.trans L4)
    replace BX := hide (BX.out.later L4)
    replace BS := hide (BS.out.later L4)
    clear ho hb hg L4 L3 B3 G3 VP
    have x0 := BX.out.cell 0
    have x1 := BX.out.cell 1
    have x2 := BX.out.cell 2
    have x3 := BX.out.cell 3
    have x4 := BX.out.cell 4
    go_wp2_with fail
    refine (cut7_c _ _ n _ V4.out (by have := HK.out; simp [mhead]; omega) HN.out).mono ?_
    rintro e w5 ⟨v5, rfl, hl, hb⟩
    replace LL := hide (LL.out.trans hl)
    replace BS := hide (BS.out.later hl)
    have V5 := hide hb
    clear hl hb V4 BX x0 x1 x2 x3 x4
    go_wp2_with (refine wpList_storeU rfl 30 (.tmp 7) (.tmp 49) rfl (w.heap.size + 1) 0 rfl (sc (0, 0, 0)) rfl Tryz.info_sense (sc_one _) _ _ BS.out (by simp) ?_)
    intro wz hz
    have BZ : Hid (Box wz (w.heap.size + 1) 30 (sc (0, 0, 0))) := by rw [hz.out]; exact BS.out.all _ rfl
    have LZ : Hid (Later w wz) := by rw [hz.out]; exact LL.out.setCells (Nat.le_succ _) _ _
    have VZ := V5.out.setSns7 BS.out (sc (0, 0, 0)) 0
    rw [← hz.out] at VZ
    clear hz
    go_wp2
    refine bodyPost_ret (results_tmp_cell' rfl _ _ _ (w.heap.size + 1) 0 rfl _ _ (run_loadVar_mid _ _ _ _ (sc (0, 0, 0)) _ BZ.out.range Tryz.underlying30 rfl Tryz.info_sense) rfl) rfl ⟨_, by rw [HR.out], LZ.out, by rw [HR.out]; exact VZ⟩
set_option maxHeartbeats 4000000 in
theorem manY_90_false (at_ : Nat) (n pg bt : Int) (caching : Bool) (w : World) (hb3 : (bt == 3) = false) (hn : In64 n) (hpg : In64 pg) (hbts : In64 bt) : Calls Tryz.prog 23 #[cval (90, at_, n, pg, bt), .bool caching, .bool false] w fun e w' => ∃ v, e = .returned (.tuple #[v, sval (mansR (90, at_, n, pg, bt) caching false).2]) ∧ Later w w' ∧ Bs w' v (mansR (90, at_, n, pg, bt) caching false).1 := by
  have hbt : bt ≠ 3 := by simpa using hb3
  have HN := hide hn
  have HPg := hide hpg
  have HBt := hide hbts
  clear hn hpg hbts
  have BX := hide ((Box.new w 36 #[.int .i64 90, .int .u64 (at_ : Int), .int .i64 n, .int .i64 pg, .int .i64 bt]).alloc (.cells #[.int .i64 0, .int .i64 0, .int .i64 0] 30))
  have BS : Hid (Box _ (w.heap.size + 1) 30 (sc (0, 0, 0))) := Box.new' (w.alloc (.cells #[.int .i64 90, .int .u64 (at_ : Int), .int .i64 n, .int .i64 pg, .int .i64 bt] 36)) 30 #[.int .i64 0, .int .i64 0, .int .i64 0] _ rfl _ (by simp)
  have LL := hide (((Later.refl w).alloc (.cells #[.int .i64 90, .int .u64 (at_ : Int), .int .i64 n, .int .i64 pg, .int .i64 bt] 36)).alloc (.cells #[.int .i64 0, .int .i64 0, .int .i64 0] 30))
  have x0 := BX.out.cell 0
  have x1 := BX.out.cell 1
  have x2 := BX.out.cell 2
  have x3 := BX.out.cell 3
  have x4 := BX.out.cell 4
  go_enter Tryz.func23, Tryz.ntmps23
  go_wp2_with fail
  generalize ((w.alloc (.cells #[.int .i64 90, .int .u64 (at_ : Int), .int .i64 n, .int .i64 pg, .int .i64 bt] 36)).alloc (.cells #[.int .i64 0, .int .i64 0, .int .i64 0] 30)) = w1 at *
  refine (mpage_c pg bt caching HPg.out HBt.out _).mono ?_
  rintro e w2 ⟨vp, rfl, hl, hp⟩
  replace LL := hide (LL.out.trans hl)
  replace BX := hide (BX.out.later hl)
  replace BS := hide (BS.out.later hl)
  have VP := hide hp
  clear hl hp x0 x1 x2 x3 x4
  have x0 := BX.out.cell 0
  have x1 := BX.out.cell 1
  have x2 := BX.out.cell 2
  have x3 := BX.out.cell 3
  have x4 := BX.out.cell 4
  cases hmp : mpB pg with
  | false =>
    have HR : Hid (mansR (90, at_, n, pg, bt) caching false = ([], (5, 36, 0))) := by simp [Hid, mansR, hbt, hmp]
    clear hbt hmp
    go_wp2_with fail
    refine (con_Field _).mono ?_
    rintro e w2 ⟨rfl, hl⟩
    replace LL := hide (LL.out.trans hl)
    replace BS := hide (BS.out.later hl)
    clear hl
    go_wp2_with (refine wpList_storeU rfl 30 (.tmp 7) (.tmp 35) rfl (w.heap.size + 1) 0 rfl (sc (5, 36, 0)) rfl Tryz.info_sense (sc_one _) _ _ BS.out (by simp) ?_)
    intro wz hz
    have BZ : Hid (Box wz (w.heap.size + 1) 30 (sc (5, 36, 0))) := by rw [hz.out]; exact BS.out.all _ rfl
    have LZ : Hid (Later w wz) := by rw [hz.out]; exact LL.out.setCells (Nat.le_succ _) _ _
    clear hz
    go_wp2
    refine bodyPost_ret (results_tmp_cell' rfl _ _ _ (w.heap.size + 1) 0 rfl _ _ (run_loadVar_mid _ _ _ _ (sc (5, 36, 0)) _ BZ.out.range Tryz.underlying30 rfl Tryz.info_sense) rfl) rfl ⟨_, by rw [HR.out], LZ.out, by rw [HR.out]; exact (Bs.nil _)⟩
  | true =>
    obtain ⟨L, hL⟩ : ∃ L, L = mpL pg bt caching := ⟨_, rfl⟩
    have HR : Hid (mansR (90, at_, n, pg, bt) caching false = (cutL (mhead 90 L.length false ++ L) n, (0, 0, 0))) := by simp [Hid, mansR, hbt, hmp, hL]
    have hL32 : L.length ≤ 32 := by rw [hL]; exact mpL_len _ _ _
    rw [← hL] at VP
    clear hL hmp hbt
    have VP2 := VP.out
    obtain ⟨hv1, pa, pc, rfl, hv2, hv3⟩ := VP2
    clear hv1 hv2 hv3
    obtain ⟨k, hk⟩ : ∃ k, k = L.length := ⟨_, rfl⟩
    rw [← hk] at VP HR hL32 ⊢
    have HK := hide hk
    clear hk
    go_wp2_with fail
    refine (header_true_false k hL32 _).mono ?_
    rintro e w3 ⟨g, rfl, hl, hg, hB⟩
    have L3 := hide hl
    have G3 := hide hg
    have B3 := hide hB
    clear hl hg hB x0 x1 x2 x3 x4
    go_wp2_with (at_builtin; refine wpList_append_bs rfl (.tmp 42) (.tmp 43) rfl w2.heap.size _ 8 (mhead 90 k false) rfl (owns_box B3.out rfl (by decide) G3.out) _ L rfl (VP.out.later L3.out) (by have := HK.out; omega) L3.out.size w2 L3.out ?_)
    intro v4 w4 ho hb hg
    have V4 := hide (Bs.of_owns ho).1
    have L4 : Later w2 w4 := hb
    replace LL := hide (LL.out.trans L4)
    replace BX := hide (BX.out.later L4)
    replace BS := hide (BS.out.later L4)
    clear ho hb hg L4 L3 B3 G3 VP
    have x0 := BX.out.cell 0
    have x1 := BX.out.cell 1
    have x2 := BX.out.cell 2
    have x3 := BX.out.cell 3
    have x4 := BX.out.cell 4
    go_wp2_with fail
    refine (cut7_c _ _ n _ V4.out (by have := HK.out; simp [mhead]; omega) HN.out).mono ?_
    rintro e w5 ⟨v5, rfl, hl, hb⟩
    replace LL := hide (LL.out.trans hl)
    replace BS := hide (BS.out.later hl)
    have V5 := hide hb
    clear hl hb V4 BX x0 x1 x2 x3 x4
    go_wp2_with (refine wpList_storeU rfl 30 (.tmp 7) (.tmp 49) rfl (w.heap.size + 1) 0 rfl (sc (0, 0, 0)) rfl Tryz.info_sense (sc_one _) _ _ BS.out (by simp) ?_)
    intro wz hz
    have BZ : Hid (Box wz (w.heap.size + 1) 30 (sc (0, 0, 0))) := by rw [hz.out]; exact BS.out.all _ rfl
    have LZ : Hid (Later w wz) := by rw [hz.out]; exact LL.out.setCells (Nat.le_succ _) _ _
    have VZ := V5.out.setSns7 BS.out (sc (0, 0, 0)) 0
    rw [← hz.out] at VZ
    clear hz
    go_wp2
    refine bodyPost_ret (results_tmp_cell' rfl _ _ _ (w.heap.size + 1) 0 rfl _ _ (run_loadVar_mid _ _ _ _ (sc (0, 0, 0)) _ BZ.out.range Tryz.underlying30 rfl Tryz.info_sense) rfl) rfl ⟨_, by rw [HR.out], LZ.out, by rw [HR.out]; exact VZ⟩
set_option maxHeartbeats 4000000 in
theorem manswer_c : IAns8 := by
  intro c caching protect w hc
  obtain ⟨h1, h2, hn, hpg, hbts⟩ := hc
  obtain ⟨op, at_, n, pg, bt⟩ := c
  simp only at h1 h2 hn hpg hbts
  clear h1 h2
  by_cases hop : op ≠ 26 ∧ op ≠ 90
  · have HR : Hid (mansR (op, at_, n, pg, bt) caching protect = ([], (5, 36, 0))) := by simp [Hid, mansR, hop]
    have hb1 : (op != 26) = true := by simp [hop.1]
    have hb2 : (op != 90) = true := by simp [hop.2]
    clear hop hn hpg hbts
    have BX := hide ((Box.new w 36 #[.int .i64 op, .int .u64 (at_ : Int), .int .i64 n, .int .i64 pg, .int .i64 bt]).alloc (.cells #[.int .i64 0, .int .i64 0, .int .i64 0] 30))
    have BS : Hid (Box _ (w.heap.size + 1) 30 (sc (0, 0, 0))) := Box.new' (w.alloc (.cells #[.int .i64 op, .int .u64 (at_ : Int), .int .i64 n, .int .i64 pg, .int .i64 bt] 36)) 30 #[.int .i64 0, .int .i64 0, .int .i64 0] _ rfl _ (by simp)
    have LL := hide (((Later.refl w).alloc (.cells #[.int .i64 op, .int .u64 (at_ : Int), .int .i64 n, .int .i64 pg, .int .i64 bt] 36)).alloc (.cells #[.int .i64 0, .int .i64 0, .int .i64 0] 30))
    have x0 := BX.out.cell 0
    have x1 := BX.out.cell 1
    have x2 := BX.out.cell 2
    have x3 := BX.out.cell 3
    have x4 := BX.out.cell 4
    go_enter Tryz.func23, Tryz.ntmps23
    go_wp2_with fail
    refine (con_Field _).mono ?_
    rintro e w2 ⟨rfl, hl⟩
    replace LL := hide (LL.out.trans hl)
    replace BS := hide (BS.out.later hl)
    clear hl
    go_wp2_with (refine wpList_storeU rfl 30 (.tmp 7) (.tmp 19) rfl (w.heap.size + 1) 0 rfl (sc (5, 36, 0)) rfl Tryz.info_sense (sc_one _) _ _ BS.out (by simp) ?_)
    intro wz hz
    have BZ : Hid (Box wz (w.heap.size + 1) 30 (sc (5, 36, 0))) := by rw [hz.out]; exact BS.out.all _ rfl
    have LZ : Hid (Later w wz) := by rw [hz.out]; exact LL.out.setCells (Nat.le_succ _) _ _
    clear hz
    go_wp2
    refine bodyPost_ret (results_tmp_cell' rfl _ _ _ (w.heap.size + 1) 0 rfl _ _ (run_loadVar_mid _ _ _ _ (sc (5, 36, 0)) _ BZ.out.range Tryz.underlying30 rfl Tryz.info_sense) rfl) rfl ⟨_, by rw [HR.out], LZ.out, by rw [HR.out]; exact (Bs.nil _)⟩
  by_cases hbt : bt = 3
  · have hb3 : (bt == 3) = true := by simp [hbt]
    have HR : Hid (mansR (op, at_, n, pg, bt) caching protect = ([], (5, 57, 0))) := by simp [Hid, mansR, hop, hbt]
    clear hbt hn hpg hbts
    rcases (show op = 26 ∨ op = 90 by omega) with rfl | rfl
    · clear hop
      have BX := hide ((Box.new w 36 #[.int .i64 26, .int .u64 (at_ : Int), .int .i64 n, .int .i64 pg, .int .i64 bt]).alloc (.cells #[.int .i64 0, .int .i64 0, .int .i64 0] 30))
      have BS : Hid (Box _ (w.heap.size + 1) 30 (sc (0, 0, 0))) := Box.new' (w.alloc (.cells #[.int .i64 26, .int .u64 (at_ : Int), .int .i64 n, .int .i64 pg, .int .i64 bt] 36)) 30 #[.int .i64 0, .int .i64 0, .int .i64 0] _ rfl _ (by simp)
      have LL := hide (((Later.refl w).alloc (.cells #[.int .i64 26, .int .u64 (at_ : Int), .int .i64 n, .int .i64 pg, .int .i64 bt] 36)).alloc (.cells #[.int .i64 0, .int .i64 0, .int .i64 0] 30))
      have x0 := BX.out.cell 0
      have x1 := BX.out.cell 1
      have x2 := BX.out.cell 2
      have x3 := BX.out.cell 3
      have x4 := BX.out.cell 4
      go_enter Tryz.func23, Tryz.ntmps23
      go_wp2_with fail
      refine (con_Saving _).mono ?_
      rintro e w2 ⟨rfl, hl⟩
      replace LL := hide (LL.out.trans hl)
      replace BS := hide (BS.out.later hl)
      clear hl
      go_wp2_with (refine wpList_storeU rfl 30 (.tmp 7) (.tmp 23) rfl (w.heap.size + 1) 0 rfl (sc (5, 57, 0)) rfl Tryz.info_sense (sc_one _) _ _ BS.out (by simp) ?_)
      intro wz hz
      have BZ : Hid (Box wz (w.heap.size + 1) 30 (sc (5, 57, 0))) := by rw [hz.out]; exact BS.out.all _ rfl
      have LZ : Hid (Later w wz) := by rw [hz.out]; exact LL.out.setCells (Nat.le_succ _) _ _
      clear hz
      go_wp2
      refine bodyPost_ret (results_tmp_cell' rfl _ _ _ (w.heap.size + 1) 0 rfl _ _ (run_loadVar_mid _ _ _ _ (sc (5, 57, 0)) _ BZ.out.range Tryz.underlying30 rfl Tryz.info_sense) rfl) rfl ⟨_, by rw [HR.out], LZ.out, by rw [HR.out]; exact (Bs.nil _)⟩
    · clear hop
      have BX := hide ((Box.new w 36 #[.int .i64 90, .int .u64 (at_ : Int), .int .i64 n, .int .i64 pg, .int .i64 bt]).alloc (.cells #[.int .i64 0, .int .i64 0, .int .i64 0] 30))
      have BS : Hid (Box _ (w.heap.size + 1) 30 (sc (0, 0, 0))) := Box.new' (w.alloc (.cells #[.int .i64 90, .int .u64 (at_ : Int), .int .i64 n, .int .i64 pg, .int .i64 bt] 36)) 30 #[.int .i64 0, .int .i64 0, .int .i64 0] _ rfl _ (by simp)
      have LL := hide (((Later.refl w).alloc (.cells #[.int .i64 90, .int .u64 (at_ : Int), .int .i64 n, .int .i64 pg, .int .i64 bt] 36)).alloc (.cells #[.int .i64 0, .int .i64 0, .int .i64 0] 30))
      have x0 := BX.out.cell 0
      have x1 := BX.out.cell 1
      have x2 := BX.out.cell 2
      have x3 := BX.out.cell 3
      have x4 := BX.out.cell 4
      go_enter Tryz.func23, Tryz.ntmps23
      go_wp2_with fail
      refine (con_Saving _).mono ?_
      rintro e w2 ⟨rfl, hl⟩
      replace LL := hide (LL.out.trans hl)
      replace BS := hide (BS.out.later hl)
      clear hl
      go_wp2_with (refine wpList_storeU rfl 30 (.tmp 7) (.tmp 23) rfl (w.heap.size + 1) 0 rfl (sc (5, 57, 0)) rfl Tryz.info_sense (sc_one _) _ _ BS.out (by simp) ?_)
      intro wz hz
      have BZ : Hid (Box wz (w.heap.size + 1) 30 (sc (5, 57, 0))) := by rw [hz.out]; exact BS.out.all _ rfl
      have LZ : Hid (Later w wz) := by rw [hz.out]; exact LL.out.setCells (Nat.le_succ _) _ _
      clear hz
      go_wp2
      refine bodyPost_ret (results_tmp_cell' rfl _ _ _ (w.heap.size + 1) 0 rfl _ _ (run_loadVar_mid _ _ _ _ (sc (5, 57, 0)) _ BZ.out.range Tryz.underlying30 rfl Tryz.info_sense) rfl) rfl ⟨_, by rw [HR.out], LZ.out, by rw [HR.out]; exact (Bs.nil _)⟩
  have hb3 : (bt == 3) = false := by simp [hbt]
  rcases (show op = 26 ∨ op = 90 by omega) with rfl | rfl
  · cases protect with
    | true => exact manY_26_true at_ n pg bt caching w hb3 hn hpg hbts
    | false => exact manY_26_false at_ n pg bt caching w hb3 hn hpg hbts
  · cases protect with
    | true => exact manY_90_true at_ n pg bt caching w hb3 hn hpg hbts
    | false => exact manY_90_false at_ n pg bt caching w hb3 hn hpg hbts
end Go.Proofs.YtfakboehmcimpaaGreat

namespace Go.Proofs.YtfakboehmcimpaaGreat
open Go.ChangeShapes Go.WideShapes Go.ChangeAt Go.RowKit
set_option linter.unusedVariables false
set_option maxRecDepth 4000
set_option linter.unusedSimpArgs false
/-! The landed intent: Begin. -/
/-- two calls, and a call of what they give -/
theorem fin_three {ops : Array Oper} {Q : Exit → Act → World → Prop} {a : Act} {b : World} {sU sI : Nat} {dI : Tmp} {bb : World} {n : Nat} {r cc : Bool} {am : Option Addr} {cm : Nat} {M : List Sns} {T : Utt × Itt} (w0 : World) (g4 g5 : Nat) (hF : Fr11 w0 b g4 g5) (pU vU pI : Tmp) (hsU : OpAt ops sU none (.store 32 (.tmp pU) (.tmp vU))) (hsI : OpAt ops sI none (.store 44 (.tmp pI) (.tmp dI))) (cu : List Value) (eU : a.eval (.tmp pU) = .pointer (some ⟨g4, 0, none⟩)) (eV : a.eval (.tmp vU) = .agg cu.toArray) (eI : a.eval (.tmp pI) = .pointer (some ⟨g5, 0, none⟩)) (d1 d2 : Tmp) (hs1 : d1 < a.tmps.size) (hs2 : d2 < a.tmps.size) (hsz : dI < a.tmps.size) (hne : (dI ≠ pU ∧ dI ≠ vU ∧ dI ≠ pI) ∧ (d1 ≠ pU ∧ d1 ≠ vU ∧ d1 ≠ pI) ∧ (d2 ≠ pU ∧ d2 ≠ vU ∧ d2 ≠ pI) ∧ d1 ≠ d2)
    {c1 c2 c3 : Nat} (f1 : FuncId) (hp1 : Plain Tryz.prog f1) (xs1 : List Operand) (ts1 : Array TypeId) (us1 : List Value) (hx1 : xs1.map a.eval = us1) (hc1 : OpAt ops c1 (some d1) (.call { callee := .value (.func f1), args := xs1.toArray, argTypes := ts1 }))
    (f2 : FuncId) (hp2 : Plain Tryz.prog f2) (xs2 : List Operand) (ts2 : Array TypeId) (us2 : List Value) (hx2 : ∀ v, xs2.map (a.put (some d1) v).eval = us2) (hc2 : OpAt ops c2 (some d2) (.call { callee := .value (.func f2), args := xs2.toArray, argTypes := ts2 }))
    (f3 : FuncId) (hp3 : Plain Tryz.prog f3) (ts3 : Array TypeId) (hc3 : OpAt ops c3 (some dI) (.call { callee := .value (.func f3), args := [Operand.tmp d1, .tmp d2].toArray, argTypes := ts3 }))
    (hcc : [c1, c2, c3].Nodup) (hd : ([c1, c2, c3].all fun i => ([c1, c2, c3].filter fun k => dep .any ops i k) == (if i = c3 then [c1, c2] else if i = c2 then [c1] else [])) = true)
    (z : Value) (R1 : Value → World → Prop) (s1 : ∀ v w w', Later w w' → R1 v w → R1 v w')
    (hcall1 : ∀ W, Later b W → Calls Tryz.prog f1 us1.toArray W fun e w' => ∃ v, e = .returned v ∧ Later W w' ∧ R1 v w')
    (hcall2 : ∀ W, Later b W → Calls Tryz.prog f2 us2.toArray W fun e w' => e = .returned z ∧ Later W w')
    (hcall3 : ∀ v W, Later b W → R1 v W → Calls Tryz.prog f3 #[v, z] W fun e w' => ∃ y, e = .returned (.agg y.toArray) ∧ Later W w' ∧ PdI bb n r cc am cm M T cu y w')
    (h : ∀ v y W, Later w0 W → Box W g4 32 cu → Box W g5 44 y → PdI bb n r cc am cm M T cu y W → Q .normal (((a.put (some d1) v).put (some d2) z).put (some dI) (.agg y.toArray)) W) : wpT Tryz.prog ops Q [sU, sI] [c1, c2, c3] [] a b := by
  simp only [List.nodup_cons, List.mem_cons, List.not_mem_nil, or_false, not_or, not_false_eq_true, List.nodup_nil, and_true] at hcc
  obtain ⟨⟨n01, n02⟩, n12⟩ := hcc
  have m01 : ¬ c2 = c1 := fun e => n01 (Eq.symm e)
  have m02 : ¬ c3 = c1 := fun e => n02 (Eq.symm e)
  have m12 : ¬ c3 = c2 := fun e => n12 (Eq.symm e)
  refine wpT_bag (fun i => if i = c3 then [c1, c2] else if i = c2 then [c1] else []) (fun i vals W => if i = c1 then R1 (vals c1) W else if i = c2 then vals c2 = z else vals c2 = z ∧ ∃ y, vals c3 = .agg y.toArray ∧ PdI bb n r cc am cm M T cu y W) hd ?_ ?_ ?_ ?_
  · intro i hi vals w w' hl hr
    by_cases e : i = c1
    · rw [if_pos e] at hr ⊢
      exact s1 _ _ _ hl hr
    rw [if_neg e] at hr ⊢
    by_cases e : i = c2
    · rw [if_pos e] at hr ⊢
      exact hr
    rw [if_neg e] at hr ⊢
    obtain ⟨q1, y, q3, q4⟩ := hr
    exact ⟨q1, y, q3, q4.later hl⟩
  · intro i hi k hk hki hds vals v W hr
    simp only [List.mem_cons, List.not_mem_nil, or_false] at hi hk
    rcases hi with rfl | rfl | rfl <;> rcases hk with rfl | rfl | rfl <;> first | (exact absurd rfl hki) | (simp [n01, n02, n12, m01, m02, m12] at hds; done) | (simpa [upd, n01, n02, n12, m01, m02, m12] using hr)
  · intro i hi vals W hW hdep
    simp only [List.mem_cons, List.not_mem_nil, or_false] at hi
    obtain ⟨k1, k2, k3, k4⟩ := hne
    rcases hi with rfl | rfl | rfl
    · rw [if_neg n02, if_neg n01]
      refine lVal_callAt hc1 hp1 us1 hx1 ((hcall1 W hW).mono ?_)
      rintro e w' ⟨v, rfl, hl, hr⟩
      refine ⟨_, rfl, hl, ?_⟩
      rw [if_pos rfl]
      simpa [upd] using hr
    · rw [if_neg n12, if_pos rfl] at hdep ⊢
      refine lVal_callAt hc2 hp2 us2 ?_ ((hcall2 W hW).mono ?_)
      · simp only [putAll, List.foldl, hc1.dst]
        exact hx2 _
      · rintro e w' ⟨rfl, hl⟩
        refine ⟨_, rfl, hl, ?_⟩
        rw [if_neg m01, if_pos rfl]
        simp [upd]
    · rw [if_pos rfl] at hdep ⊢
      have q0 := hdep c1 (by simp)
      have q1 := hdep c2 (by simp)
      rw [if_pos rfl] at q0
      rw [if_neg m01, if_pos rfl] at q1
      refine lVal_callAt hc3 hp3 [vals c1, z] ?_ ((hcall3 (vals c1) W hW q0).mono ?_)
      · simp only [putAll, List.foldl, hc1.dst, hc2.dst, List.map]
        rw [eval_put_ne k4, eval_same hs1, eval_same (by simp only [put_size]; exact hs2), q1]
      · rintro e w' ⟨y, rfl, hl, hy⟩
        refine ⟨_, rfl, hl, ?_⟩
        rw [if_neg m02, if_neg m12]
        exact ⟨by simp [upd, n12, q1], y, by simp [upd], hy⟩
  · intro vals W hW hall
    have q := hall c3 (by simp)
    rw [if_neg m02, if_neg m12] at q
    obtain ⟨q2, y, q3, q4⟩ := q
    simp only [putAll, List.foldl, hc1.dst, hc2.dst, hc3.dst]
    rw [q2, q3]
    obtain ⟨⟨a1, a2, a3⟩, ⟨b1, b2, b3⟩, ⟨d1', d2', d3'⟩, _⟩ := hne
    exact fin_put w0 g4 g5 (hF.later hW) pU vU pI hsU hsI cu (by rw [eval_put_ne a1.symm, eval_put_ne d1'.symm, eval_put_ne b1.symm, eU]) (by rw [eval_put_ne a2.symm, eval_put_ne d2'.symm, eval_put_ne b2.symm, eV]) (by rw [eval_put_ne a3.symm, eval_put_ne d3'.symm, eval_put_ne b3.symm, eI]) y (eval_same (by simp only [put_size]; exact hsz)) q4 (fun W' q1 q2 q3 q4 => h _ y W' q1 q2 q3 q4)
/-- a unit that had its own rows gives them back -/
theorem PdI.own11 {w b W : World} {n : Nat} {r cc : Bool} {am xm : Option Addr} {m cm xcm : Nat} {M : List Sns} {T : Utt × Itt} {x y : List Value} (h : PdI b n r cc xm xcm M T x y W) (ho : W.ownsRow w.heap.size 30 3 (.slice xm m xcm) m (sv M)) (hm : m = M.length) (hok : ∀ s ∈ M, OkS s) (hb : w.heap.size ≤ b.heap.size) : PdI w n r cc am cm M T x y W := by
  subst hm
  obtain ⟨⟨a1, a2, a3, a4, a5, a6, a7, e, hm, ha⟩, hi⟩ := h
  refine ⟨⟨a1, a2, a3, a4, a5, a6, a7, e, hm, ?_⟩, hi⟩
  rcases ha with ⟨q1, q2, q3⟩ | h
  · rw [q1, q2, q3]
    exact .inr ⟨ho, hok⟩
  · exact .inr ⟨owns_rebase h.1 hb, h.2⟩
theorem okS_536 : OkS (5, 36, 0) := okS_of _ (by decide)
theorem okS_557 : OkS (5, 57, 0) := okS_of _ (by decide)
theorem okS_ans (c : Cmd) (lun luns : Int) : OkS (ansR c lun luns).2 := by
  unfold ansR pageS
  repeat' split
  all_goals first | exact okS_zero | exact okS_536
theorem okS_mans (c : Cmd) (a b : Bool) : OkS (mansR c a b).2 := by
  unfold mansR
  repeat' split
  all_goals first | exact okS_zero | exact okS_536 | exact okS_557
end Go.Proofs.YtfakboehmcimpaaGreat
