import Derived.Test.YtfakboehmcimpaaGreatMAO
import Derived.Test.YtfakboehmcimpaaGreatMAM
import Derived.Test.YtfakboehmcimpaaGreatMAC
import Derived.Test.YtfakboehmcimpaaGreatMAL
namespace Go.Proofs.YtfakboehmcimpaaGreat
open Go.ChangeShapes Go.WideShapes Go.ChangeAt Go.RowKit
set_option linter.unusedVariables false
set_option maxRecDepth 4000
set_option linter.unusedSimpArgs false
/-! The document's mode: Answer. -/
def wpU (p : Bool) : UInt8 := if p then 128 else 0
def mhead (op : Int) (n : Nat) (protect : Bool) : List UInt8 := if op = 90 then [0, UInt8.ofNat (n + 6), 0, wpU protect, 0, 0, 0, 0] else [UInt8.ofNat (n + 3), 0, wpU protect, 0]
def mansR (c : Cmd) (caching protect : Bool) : List UInt8 × Sns :=
  if c.1 ≠ 26 ∧ c.1 ≠ 90 then ([], (5, 36, 0))
  else if c.2.2.2.2 = 3 then ([], (5, 57, 0))
  else if mpB c.2.2.2.1 = false then ([], (5, 36, 0))
  else (cutL (mhead c.1 (mpL c.2.2.2.1 c.2.2.2.2 caching).length protect ++ mpL c.2.2.2.1 c.2.2.2.2 caching) c.2.2.1, (0, 0, 0))
theorem Box.below8 {w w' : World} {g B : Nat} {t : TypeId} {cs : List Value} (h : Box w g t cs) (hb : Below B w w') (hg : g < B) : Box w' g t cs := by
  unfold Box at *
  rw [hb.block g hg]
  exact h
theorem u8_add (n k : Nat) (h : n + k < 256) : ((UInt8.ofNat (n + k)).toNat : Int) = (n : Int) + k := by
  rw [UInt8.toNat_ofNat']; omega
theorem mhead_26 (k : Nat) (hk : k ≤ 32) (p : Bool) : bv (mhead 26 k p) = [.int .u8 ((k : Int) + 3), .int .u8 0, .int .u8 ((wpU p).toNat : Int), .int .u8 0] := by
  have h := u8_add k 3 (by omega)
  show [Value.int .u8 ((UInt8.ofNat (k + 3)).toNat : Int), .int .u8 0, .int .u8 ((wpU p).toNat : Int), .int .u8 0] = _
  rw [h]; rfl
theorem mhead_90 (k : Nat) (hk : k ≤ 32) (p : Bool) : bv (mhead 90 k p) = [.int .u8 0, .int .u8 ((k : Int) + 6), .int .u8 0, .int .u8 ((wpU p).toNat : Int), .int .u8 0, .int .u8 0, .int .u8 0, .int .u8 0] := by
  have h := u8_add k 6 (by omega)
  show [Value.int .u8 0, .int .u8 ((UInt8.ofNat (k + 6)).toNat : Int), .int .u8 0, .int .u8 ((wpU p).toNat : Int), .int .u8 0, .int .u8 0, .int .u8 0, .int .u8 0] = _
  rw [h]; rfl
set_option maxHeartbeats 4000000 in
theorem rmanY_26_true (at_ : Nat) (n pg bt : Int) (caching : Bool) (w : World) (hb3 : (bt == 3) = false) : Calls Tryz.prog 37 #[cval (26, at_, n, pg, bt), .bool caching, .bool true] w fun e w' => ∃ v, e = .returned (.tuple #[v, sval (mansR (26, at_, n, pg, bt) caching true).2]) ∧ Later w w' ∧ Bs w' v (mansR (26, at_, n, pg, bt) caching true).1 := by
  have hbt : bt ≠ 3 := by simpa using hb3
  have BX := hide ((Box.new w 36 #[.int .i64 26, .int .u64 (at_ : Int), .int .i64 n, .int .i64 pg, .int .i64 bt]).alloc (.cells #[.int .i64 0, .int .i64 0, .int .i64 0] 30))
  have BS : Hid (Box _ (w.heap.size + 1) 30 (sc (0, 0, 0))) := Box.new' (w.alloc (.cells #[.int .i64 26, .int .u64 (at_ : Int), .int .i64 n, .int .i64 pg, .int .i64 bt] 36)) 30 #[.int .i64 0, .int .i64 0, .int .i64 0] _ rfl _ (by simp)
  have LL := hide (((Later.refl w).alloc (.cells #[.int .i64 26, .int .u64 (at_ : Int), .int .i64 n, .int .i64 pg, .int .i64 bt] 36)).alloc (.cells #[.int .i64 0, .int .i64 0, .int .i64 0] 30))
  have x0 := BX.out.cell 0
  have x1 := BX.out.cell 1
  have x2 := BX.out.cell 2
  have x3 := BX.out.cell 3
  have x4 := BX.out.cell 4
  go_enter Tryz.func37, Tryz.ntmps37
  go_wp2_with fail
  generalize ((w.alloc (.cells #[.int .i64 26, .int .u64 (at_ : Int), .int .i64 n, .int .i64 pg, .int .i64 bt] 36)).alloc (.cells #[.int .i64 0, .int .i64 0, .int .i64 0] 30)) = w1 at *
  refine (rmpage_c pg bt caching _).mono ?_
  rintro e w2 ⟨vp, rfl, hl, hp⟩
  replace LL := hide (LL.out.trans hl)
  replace BX := hide (BX.out.later hl)
  replace BS := hide (BS.out.later hl)
  have VP := hide hp
  clear hl hp x0 x1 x2 x3 x4
  have x0 := BX.out.cell 0
  have x1 := BX.out.cell 1
  have x2 := BX.out.cell 2
  have x3 := BX.out.cell 3
  have x4 := BX.out.cell 4
  cases hmp : mpB pg with
  | false =>
    have HR : Hid (mansR (26, at_, n, pg, bt) caching true = ([], (5, 36, 0))) := by simp [Hid, mansR, hbt, hmp]
    clear hbt hmp
    go_wp2_with fail
    refine (rof_c 5 36 0 _).mono ?_
    rintro e w2 ⟨rfl, hl⟩
    replace LL := hide (LL.out.trans hl)
    replace BS := hide (BS.out.later hl)
    clear hl
    go_wp2_with (refine wpList_storeU rfl 30 (.tmp 7) (.tmp 36) rfl (w.heap.size + 1) 0 rfl (sc (5, 36, 0)) rfl Tryz.info_sense (sc_one _) _ _ BS.out (by simp) ?_)
    intro wz hz
    have BZ : Hid (Box wz (w.heap.size + 1) 30 (sc (5, 36, 0))) := by rw [hz.out]; exact BS.out.all _ rfl
    have LZ : Hid (Later w wz) := by rw [hz.out]; exact LL.out.setCells (Nat.le_succ _) _ _
    clear hz
    go_wp2
    refine bodyPost_ret (results_tmp_cell' rfl _ _ _ (w.heap.size + 1) 0 rfl _ _ (run_loadVar_mid _ _ _ _ (sc (5, 36, 0)) _ BZ.out.range Tryz.underlying30 rfl Tryz.info_sense) rfl) rfl ⟨_, by rw [HR.out], LZ.out, by rw [HR.out]; exact (Bs.nil _)⟩
  | true =>
    obtain ⟨L, hL⟩ : ∃ L, L = mpL pg bt caching := ⟨_, rfl⟩
    have HR : Hid (mansR (26, at_, n, pg, bt) caching true = (cutL (mhead 26 L.length true ++ L) n, (0, 0, 0))) := by simp [Hid, mansR, hbt, hmp, hL]
    have hL32 : L.length ≤ 32 := by rw [hL]; exact mpL_len _ _ _
    rw [← hL] at VP
    clear hL hmp hbt
    have VP2 := VP.out
    obtain ⟨hv1, pa, pc, rfl, hv2, hv3⟩ := VP2
    clear hv1 hv2 hv3
    obtain ⟨k, hk⟩ : ∃ k, k = L.length := ⟨_, rfl⟩
    rw [← hk] at VP HR hL32 ⊢
    have HK := hide hk
    clear hk
    have y0 := (BX.out.alloc (.cells #[.int .u8 ((k : Int) + 3), .int .u8 0, .int .u8 128, .int .u8 0] 5)).cell 0
    have hsz : Hid (w.heap.size + 1 < w2.heap.size) := BS.out.lt
    go_wp2_with fail
    clear x0 x1 x2 x3 x4 y0
    have BH : Hid (Box (w2.alloc (.cells #[.int .u8 ((k : Int) + 3), .int .u8 0, .int .u8 128, .int .u8 0] 5)) w2.heap.size 5 (bv (mhead 26 k true))) := by
      rw [Hid, mhead_26 k hL32]; exact Box.new w2 _ _
    have OH := hide (owns_box (B := w2.heap.size) (n := 4) BH.out rfl (by decide) (Nat.le_refl _))
    have L3 := hide ((Later.refl w2).alloc (.cells #[.int .u8 ((k : Int) + 3), .int .u8 0, .int .u8 128, .int .u8 0] 5))
    generalize w2.alloc (.cells #[.int .u8 ((k : Int) + 3), .int .u8 0, .int .u8 128, .int .u8 0] 5) = w3 at *
    replace LL := hide (LL.out.trans L3.out)
    replace BX := hide (BX.out.later L3.out)
    replace BS := hide (BS.out.later L3.out)
    replace VP := hide (VP.out.later L3.out)
    have hs3 : Hid (w2.heap.size ≤ w3.heap.size) := L3.out.size
    clear BH L3
    refine wp_region_held (fun W => Later w W ∧ Box W w.heap.size 36 [.int .i64 26, .int .u64 (at_ : Int), .int .i64 n, .int .i64 pg, .int .i64 bt]) (fun a b hl h => ⟨h.1.trans hl, h.2.later hl⟩) ⟨LL.out, BX.out⟩ [(0, false), (1, false), (3, false), (4, false), (6, false), (2, true), (5, true), (7, false), (8, true)] (by kernel_rfl) (by kernel_rfl) (by kernel_rfl) (by kernel_rfl) ?_
    haveI : Nonempty (Held (fun W => Later w W ∧ Box W w.heap.size 36 [.int .i64 26, .int .u64 (at_ : Int), .int .i64 n, .int .i64 pg, .int .i64 bt])) := ⟨⟨_, LL.out, BX.out⟩⟩
    have e2 := fun p : Held (fun W => Later w W ∧ Box W w.heap.size 36 [.int .i64 26, .int .u64 (at_ : Int), .int .i64 n, .int .i64 pg, .int .i64 bt]) => p.h.2.cell 2
    replace LL := hide (LL.out.trans (Later.refl _).drew)
    replace BX := hide (BX.out.later (Later.refl _).drew)
    replace BS := hide (BS.out.later (Later.refl _).drew)
    replace VP := hide (VP.out.later (Later.refl _).drew)
    replace OH := hide (owns_later OH.out (Later.refl _).drew)
    replace hs3 := hide (Nat.le_trans hs3.out (Later.refl w3).drew.size)
    iterate 5 (refine wpJ_mild rfl (fun K hK => ?_); go_simp; refine hK _ ?_; clear hK K)
    refine wpJ_append8 rfl (by kernel_rfl) (.tmp 53) (.tmp 54) 40 rfl w2.heap.size w2.heap.size 4 4 (mhead 26 k true) L rfl _ rfl OH.out (fun W hW => by have := src_bs (VP.out.later hW); exact this) (by have := HK.out; omega) hs3.out (fun W hW => ⟨Below.trans LL.out (hW.mono (by have := hsz.out; omega)), BX.out.below8 hW (by have := hsz.out; omega)⟩) ?_
    intro g5 c5 w5 hB ho
    replace LL : Hid (Later w w5) := Below.trans LL.out (hB.mono (by have := hsz.out; omega))
    replace BX := hide (BX.out.below8 hB (by have := hsz.out; omega))
    replace BS := hide (BS.out.below8 hB (by have := hsz.out; omega))
    have V5 := hide (Bs.of_owns ho).1
    clear hB ho OH VP
    refine wpJ_callL (fun a b hl h => ⟨h.1.trans hl, h.2.later hl⟩) rfl (by kernel_rfl) 33 (Plain.of (by kernel_rfl)) [.tmp 55, .tmp 57] _ rfl [_, .int .i64 n] rfl (fun v W => Bs W v (cutL (mhead 26 k true ++ L) n)) ⟨LL.out, BX.out⟩ (fun wx hx => rcut_c n wx (V5.out.later hx) (by have := HK.out; simp [mhead]; omega)) ?_
    intro v2 b2 hl2 hr2
    replace LL := hide (LL.out.trans hl2)
    replace BX := hide (BX.out.later hl2)
    replace BS := hide (BS.out.later hl2)
    iterate 1 (refine wpJ_mild rfl (fun K hK => ?_); go_simp; refine hK _ ?_; clear hK K)
    refine wpJ_store rfl rfl 30 (.tmp 7) (.tmp 59) rfl (w.heap.size + 1) (sc (0, 0, 0)) rfl rfl Tryz.info_sense (sc_one _) _ _ BS.out (by simp) (fun W hW => ⟨(LL.out.trans hW).setCells (Nat.le_succ _) _ _, (BX.out.later hW).apart _ (by omega) _ _⟩) ?_
    intro wl hl wz hz
    have BZ : Hid (Box wz (w.heap.size + 1) 30 (sc (0, 0, 0))) := by rw [hz.out]; exact (BS.out.later hl).all _ rfl
    have LZ : Hid (Later w wz) := by rw [hz.out]; exact (LL.out.trans hl).setCells (Nat.le_succ _) _ _
    have VZ := (hr2.later hl).setSns7 (BS.out.later hl) (sc (0, 0, 0)) 0
    rw [← hz.out] at VZ
    clear hz hl hr2 hl2 e2
    refine wpJ_nil (fun wn hn => ?_)
    replace BZ := hide (BZ.out.later hn)
    replace LZ := hide (LZ.out.trans hn)
    have VN := hide (VZ.later hn)
    clear hn VZ
    go_wp2
    refine bodyPost_ret (results_tmp_cell' rfl _ _ _ (w.heap.size + 1) 0 rfl _ _ (run_loadVar_mid _ _ _ _ (sc (0, 0, 0)) _ BZ.out.range Tryz.underlying30 rfl Tryz.info_sense) rfl) rfl ⟨_, by rw [HR.out], LZ.out, by rw [HR.out]; exact VN.out⟩
set_option maxHeartbeats 4000000 in
theorem rmanY_90_true (at_ : Nat) (n pg bt : Int) (caching : Bool) (w : World) (hb3 : (bt == 3) = false) : Calls Tryz.prog 37 #[cval (90, at_, n, pg, bt), .bool caching, .bool true] w fun e w' => ∃ v, e = .returned (.tuple #[v, sval (mansR (90, at_, n, pg, bt) caching true).2]) ∧ Later w w' ∧ Bs w' v (mansR (90, at_, n, pg, bt) caching true).1 := by
  have hbt : bt ≠ 3 := by simpa using hb3
  have BX := hide ((Box.new w 36 #[.int .i64 90, .int .u64 (at_ : Int), .int .i64 n, .int .i64 pg, .int .i64 bt]).alloc (.cells #[.int .i64 0, .int .i64 0, .int .i64 0] 30))
  have BS : Hid (Box _ (w.heap.size + 1) 30 (sc (0, 0, 0))) := Box.new' (w.alloc (.cells #[.int .i64 90, .int .u64 (at_ : Int), .int .i64 n, .int .i64 pg, .int .i64 bt] 36)) 30 #[.int .i64 0, .int .i64 0, .int .i64 0] _ rfl _ (by simp)
  have LL := hide (((Later.refl w).alloc (.cells #[.int .i64 90, .int .u64 (at_ : Int), .int .i64 n, .int .i64 pg, .int .i64 bt] 36)).alloc (.cells #[.int .i64 0, .int .i64 0, .int .i64 0] 30))
  have x0 := BX.out.cell 0
  have x1 := BX.out.cell 1
  have x2 := BX.out.cell 2
  have x3 := BX.out.cell 3
  have x4 := BX.out.cell 4
  go_enter Tryz.func37, Tryz.ntmps37
  go_wp2_with fail
  generalize ((w.alloc (.cells #[.int .i64 90, .int .u64 (at_ : Int), .int .i64 n, .int .i64 pg, .int .i64 bt] 36)).alloc (.cells #[.int .i64 0, .int .i64 0, .int .i64 0] 30)) = w1 at *
  refine (rmpage_c pg bt caching _).mono ?_
  rintro e w2 ⟨vp, rfl, hl, hp⟩
  replace LL := hide (LL.out.trans hl)
  replace BX := hide (BX.out.later hl)
  replace BS := hide (BS.out.later hl)
  have VP := hide hp
  clear hl hp x0 x1 x2 x3 x4
  have x0 := BX.out.cell 0
  have x1 := BX.out.cell 1
  have x2 := BX.out.cell 2
  have x3 := BX.out.cell 3
  have x4 := BX.out.cell 4
  cases hmp : mpB pg with
  | false =>
    have HR : Hid (mansR (90, at_, n, pg, bt) caching true = ([], (5, 36, 0))) := by simp [Hid, mansR, hbt, hmp]
    clear hbt hmp
    go_wp2_with fail
    refine (rof_c 5 36 0 _).mono ?_
    rintro e w2 ⟨rfl, hl⟩
    replace LL := hide (LL.out.trans hl)
    replace BS := hide (BS.out.later hl)
    clear hl
    go_wp2_with (refine wpList_storeU rfl 30 (.tmp 7) (.tmp 36) rfl (w.heap.size + 1) 0 rfl (sc (5, 36, 0)) rfl Tryz.info_sense (sc_one _) _ _ BS.out (by simp) ?_)
    intro wz hz
    have BZ : Hid (Box wz (w.heap.size + 1) 30 (sc (5, 36, 0))) := by rw [hz.out]; exact BS.out.all _ rfl
    have LZ : Hid (Later w wz) := by rw [hz.out]; exact LL.out.setCells (Nat.le_succ _) _ _
    clear hz
    go_wp2
    refine bodyPost_ret (results_tmp_cell' rfl _ _ _ (w.heap.size + 1) 0 rfl _ _ (run_loadVar_mid _ _ _ _ (sc (5, 36, 0)) _ BZ.out.range Tryz.underlying30 rfl Tryz.info_sense) rfl) rfl ⟨_, by rw [HR.out], LZ.out, by rw [HR.out]; exact (Bs.nil _)⟩
  | true =>
    obtain ⟨L, hL⟩ : ∃ L, L = mpL pg bt caching := ⟨_, rfl⟩
    have HR : Hid (mansR (90, at_, n, pg, bt) caching true = (cutL (mhead 90 L.length true ++ L) n, (0, 0, 0))) := by simp [Hid, mansR, hbt, hmp, hL]
    have hL32 : L.length ≤ 32 := by rw [hL]; exact mpL_len _ _ _
    rw [← hL] at VP
    clear hL hmp hbt
    have VP2 := VP.out
    obtain ⟨hv1, pa, pc, rfl, hv2, hv3⟩ := VP2
    clear hv1 hv2 hv3
    obtain ⟨k, hk⟩ : ∃ k, k = L.length := ⟨_, rfl⟩
    rw [← hk] at VP HR hL32 ⊢
    have HK := hide hk
    clear hk
    have y0 := (BX.out.alloc (.cells #[.int .u8 ((k : Int) + 3), .int .u8 0, .int .u8 128, .int .u8 0] 5)).cell 0
    have hsz : Hid (w.heap.size + 1 < w2.heap.size) := BS.out.lt
    go_wp2_with fail
    clear x0 x1 x2 x3 x4 y0
    have BH : Hid (Box ((w2.alloc (.cells #[.int .u8 ((k : Int) + 3), .int .u8 0, .int .u8 128, .int .u8 0] 5)).alloc (.cells #[.int .u8 0, .int .u8 ((k : Int) + 6), .int .u8 0, .int .u8 128, .int .u8 0, .int .u8 0, .int .u8 0, .int .u8 0] 5)) (w2.heap.size + 1) 5 (bv (mhead 90 k true))) := by
      rw [Hid, mhead_90 k hL32]; exact Box.new' _ _ _ _ rfl _ (by simp)
    have OH := hide (owns_box (B := w2.heap.size) (n := 8) BH.out rfl (by decide) (Nat.le_succ _))
    have L3 := hide (((Later.refl w2).alloc (.cells #[.int .u8 ((k : Int) + 3), .int .u8 0, .int .u8 128, .int .u8 0] 5)).alloc (.cells #[.int .u8 0, .int .u8 ((k : Int) + 6), .int .u8 0, .int .u8 128, .int .u8 0, .int .u8 0, .int .u8 0, .int .u8 0] 5))
    generalize (w2.alloc (.cells #[.int .u8 ((k : Int) + 3), .int .u8 0, .int .u8 128, .int .u8 0] 5)).alloc (.cells #[.int .u8 0, .int .u8 ((k : Int) + 6), .int .u8 0, .int .u8 128, .int .u8 0, .int .u8 0, .int .u8 0, .int .u8 0] 5) = w3 at *
    replace LL := hide (LL.out.trans L3.out)
    replace BX := hide (BX.out.later L3.out)
    replace BS := hide (BS.out.later L3.out)
    replace VP := hide (VP.out.later L3.out)
    have hs3 : Hid (w2.heap.size ≤ w3.heap.size) := L3.out.size
    clear BH L3
    refine wp_region_held (fun W => Later w W ∧ Box W w.heap.size 36 [.int .i64 90, .int .u64 (at_ : Int), .int .i64 n, .int .i64 pg, .int .i64 bt]) (fun a b hl h => ⟨h.1.trans hl, h.2.later hl⟩) ⟨LL.out, BX.out⟩ [(0, false), (1, false), (3, false), (4, false), (6, false), (2, true), (5, true), (7, false), (8, true)] (by kernel_rfl) (by kernel_rfl) (by kernel_rfl) (by kernel_rfl) ?_
    haveI : Nonempty (Held (fun W => Later w W ∧ Box W w.heap.size 36 [.int .i64 90, .int .u64 (at_ : Int), .int .i64 n, .int .i64 pg, .int .i64 bt])) := ⟨⟨_, LL.out, BX.out⟩⟩
    have e2 := fun p : Held (fun W => Later w W ∧ Box W w.heap.size 36 [.int .i64 90, .int .u64 (at_ : Int), .int .i64 n, .int .i64 pg, .int .i64 bt]) => p.h.2.cell 2
    replace LL := hide (LL.out.trans (Later.refl _).drew)
    replace BX := hide (BX.out.later (Later.refl _).drew)
    replace BS := hide (BS.out.later (Later.refl _).drew)
    replace VP := hide (VP.out.later (Later.refl _).drew)
    replace OH := hide (owns_later OH.out (Later.refl _).drew)
    replace hs3 := hide (Nat.le_trans hs3.out (Later.refl w3).drew.size)
    iterate 5 (refine wpJ_mild rfl (fun K hK => ?_); go_simp; refine hK _ ?_; clear hK K)
    refine wpJ_append8 rfl (by kernel_rfl) (.tmp 53) (.tmp 54) 40 rfl w2.heap.size (w2.heap.size + 1) 8 8 (mhead 90 k true) L rfl _ rfl OH.out (fun W hW => by have := src_bs (VP.out.later hW); exact this) (by have := HK.out; omega) hs3.out (fun W hW => ⟨Below.trans LL.out (hW.mono (by have := hsz.out; omega)), BX.out.below8 hW (by have := hsz.out; omega)⟩) ?_
    intro g5 c5 w5 hB ho
    replace LL : Hid (Later w w5) := Below.trans LL.out (hB.mono (by have := hsz.out; omega))
    replace BX := hide (BX.out.below8 hB (by have := hsz.out; omega))
    replace BS := hide (BS.out.below8 hB (by have := hsz.out; omega))
    have V5 := hide (Bs.of_owns ho).1
    clear hB ho OH VP
    refine wpJ_callL (fun a b hl h => ⟨h.1.trans hl, h.2.later hl⟩) rfl (by kernel_rfl) 33 (Plain.of (by kernel_rfl)) [.tmp 55, .tmp 57] _ rfl [_, .int .i64 n] rfl (fun v W => Bs W v (cutL (mhead 90 k true ++ L) n)) ⟨LL.out, BX.out⟩ (fun wx hx => rcut_c n wx (V5.out.later hx) (by have := HK.out; simp [mhead]; omega)) ?_
    intro v2 b2 hl2 hr2
    replace LL := hide (LL.out.trans hl2)
    replace BX := hide (BX.out.later hl2)
    replace BS := hide (BS.out.later hl2)
    iterate 1 (refine wpJ_mild rfl (fun K hK => ?_); go_simp; refine hK _ ?_; clear hK K)
    refine wpJ_store rfl rfl 30 (.tmp 7) (.tmp 59) rfl (w.heap.size + 1) (sc (0, 0, 0)) rfl rfl Tryz.info_sense (sc_one _) _ _ BS.out (by simp) (fun W hW => ⟨(LL.out.trans hW).setCells (Nat.le_succ _) _ _, (BX.out.later hW).apart _ (by omega) _ _⟩) ?_
    intro wl hl wz hz
    have BZ : Hid (Box wz (w.heap.size + 1) 30 (sc (0, 0, 0))) := by rw [hz.out]; exact (BS.out.later hl).all _ rfl
    have LZ : Hid (Later w wz) := by rw [hz.out]; exact (LL.out.trans hl).setCells (Nat.le_succ _) _ _
    have VZ := (hr2.later hl).setSns7 (BS.out.later hl) (sc (0, 0, 0)) 0
    rw [← hz.out] at VZ
    clear hz hl hr2 hl2 e2
    refine wpJ_nil (fun wn hn => ?_)
    replace BZ := hide (BZ.out.later hn)
    replace LZ := hide (LZ.out.trans hn)
    have VN := hide (VZ.later hn)
    clear hn VZ
    go_wp2
    refine bodyPost_ret (results_tmp_cell' rfl _ _ _ (w.heap.size + 1) 0 rfl _ _ (run_loadVar_mid _ _ _ _ (sc (0, 0, 0)) _ BZ.out.range Tryz.underlying30 rfl Tryz.info_sense) rfl) rfl ⟨_, by rw [HR.out], LZ.out, by rw [HR.out]; exact VN.out⟩
set_option maxHeartbeats 4000000 in
theorem rmanY_26_false (at_ : Nat) (n pg bt : Int) (caching : Bool) (w : World) (hb3 : (bt == 3) = false) : Calls Tryz.prog 37 #[cval (26, at_, n, pg, bt), .bool caching, .bool false] w fun e w' => ∃ v, e = .returned (.tuple #[v, sval (mansR (26, at_, n, pg, bt) caching false).2]) ∧ Later w w' ∧ Bs w' v (mansR (26, at_, n, pg, bt) caching false).1 := by
  have hbt : bt ≠ 3 := by simpa using hb3
  have BX := hide ((Box.new w 36 #[.int .i64 26, .int .u64 (at_ : Int), .int .i64 n, .int .i64 pg, .int .i64 bt]).alloc (.cells #[.int .i64 0, .int .i64 0, .int .i64 0] 30))
  have BS : Hid (Box _ (w.heap.size + 1) 30 (sc (0, 0, 0))) := Box.new' (w.alloc (.cells #[.int .i64 26, .int .u64 (at_ : Int), .int .i64 n, .int .i64 pg, .int .i64 bt] 36)) 30 #[.int .i64 0, .int .i64 0, .int .i64 0] _ rfl _ (by simp)
  have LL := hide (((Later.refl w).alloc (.cells #[.int .i64 26, .int .u64 (at_ : Int), .int .i64 n, .int .i64 pg, .int .i64 bt] 36)).alloc (.cells #[.int .i64 0, .int .i64 0, .int .i64 0] 30))
  have x0 := BX.out.cell 0
  have x1 := BX.out.cell 1
  have x2 := BX.out.cell 2
  have x3 := BX.out.cell 3
  have x4 := BX.out.cell 4
  go_enter Tryz.func37, Tryz.ntmps37
  go_wp2_with fail
  generalize ((w.alloc (.cells #[.int .i64 26, .int .u64 (at_ : Int), .int .i64 n, .int .i64 pg, .int .i64 bt] 36)).alloc (.cells #[.int .i64 0, .int .i64 0, .int .i64 0] 30)) = w1 at *
  refine (rmpage_c pg bt caching _).mono ?_
  rintro e w2 ⟨vp, rfl, hl, hp⟩
  replace LL := hide (LL.out.trans hl)
  replace BX := hide (BX.out.later hl)
  replace BS := hide (BS.out.later hl)
  have VP := hide hp
  clear hl hp x0 x1 x2 x3 x4
  have x0 := BX.out.cell 0
  have x1 := BX.out.cell 1
  have x2 := BX.out.cell 2
  have x3 := BX.out.cell 3
  have x4 := BX.out.cell 4
  cases hmp : mpB pg with
  | false =>
    have HR : Hid (mansR (26, at_, n, pg, bt) caching false = ([], (5, 36, 0))) := by simp [Hid, mansR, hbt, hmp]
    clear hbt hmp
    go_wp2_with fail
    refine (rof_c 5 36 0 _).mono ?_
    rintro e w2 ⟨rfl, hl⟩
    replace LL := hide (LL.out.trans hl)
    replace BS := hide (BS.out.later hl)
    clear hl
    go_wp2_with (refine wpList_storeU rfl 30 (.tmp 7) (.tmp 36) rfl (w.heap.size + 1) 0 rfl (sc (5, 36, 0)) rfl Tryz.info_sense (sc_one _) _ _ BS.out (by simp) ?_)
    intro wz hz
    have BZ : Hid (Box wz (w.heap.size + 1) 30 (sc (5, 36, 0))) := by rw [hz.out]; exact BS.out.all _ rfl
    have LZ : Hid (Later w wz) := by rw [hz.out]; exact LL.out.setCells (Nat.le_succ _) _ _
    clear hz
    go_wp2
    refine bodyPost_ret (results_tmp_cell' rfl _ _ _ (w.heap.size + 1) 0 rfl _ _ (run_loadVar_mid _ _ _ _ (sc (5, 36, 0)) _ BZ.out.range Tryz.underlying30 rfl Tryz.info_sense) rfl) rfl ⟨_, by rw [HR.out], LZ.out, by rw [HR.out]; exact (Bs.nil _)⟩
  | true =>
    obtain ⟨L, hL⟩ : ∃ L, L = mpL pg bt caching := ⟨_, rfl⟩
    have HR : Hid (mansR (26, at_, n, pg, bt) caching false = (cutL (mhead 26 L.length false ++ L) n, (0, 0, 0))) := by simp [Hid, mansR, hbt, hmp, hL]
    have hL32 : L.length ≤ 32 := by rw [hL]; exact mpL_len _ _ _
    rw [← hL] at VP
    clear hL hmp hbt
    have VP2 := VP.out
    obtain ⟨hv1, pa, pc, rfl, hv2, hv3⟩ := VP2
    clear hv1 hv2 hv3
    obtain ⟨k, hk⟩ : ∃ k, k = L.length := ⟨_, rfl⟩
    rw [← hk] at VP HR hL32 ⊢
    have HK := hide hk
    clear hk
    have y0 := (BX.out.alloc (.cells #[.int .u8 ((k : Int) + 3), .int .u8 0, .int .u8 0, .int .u8 0] 5)).cell 0
    have hsz : Hid (w.heap.size + 1 < w2.heap.size) := BS.out.lt
    go_wp2_with fail
    clear x0 x1 x2 x3 x4 y0
    have BH : Hid (Box (w2.alloc (.cells #[.int .u8 ((k : Int) + 3), .int .u8 0, .int .u8 0, .int .u8 0] 5)) w2.heap.size 5 (bv (mhead 26 k false))) := by
      rw [Hid, mhead_26 k hL32]; exact Box.new w2 _ _
    have OH := hide (owns_box (B := w2.heap.size) (n := 4) BH.out rfl (by decide) (Nat.le_refl _))
    have L3 := hide ((Later.refl w2).alloc (.cells #[.int .u8 ((k : Int) + 3), .int .u8 0, .int .u8 0, .int .u8 0] 5))
    generalize w2.alloc (.cells #[.int .u8 ((k : Int) + 3), .int .u8 0, .int .u8 0, .int .u8 0] 5) = w3 at *
    replace LL := hide (LL.out.trans L3.out)
    replace BX := hide (BX.out.later L3.out)
    replace BS := hide (BS.out.later L3.out)
    replace VP := hide (VP.out.later L3.out)
    have hs3 : Hid (w2.heap.size ≤ w3.heap.size) := L3.out.size
    clear BH L3
    refine wp_region_held (fun W => Later w W ∧ Box W w.heap.size 36 [.int .i64 26, .int .u64 (at_ : Int), .int .i64 n, .int .i64 pg, .int .i64 bt]) (fun a b hl h => ⟨h.1.trans hl, h.2.later hl⟩) ⟨LL.out, BX.out⟩ [(0, false), (1, false), (3, false), (4, false), (6, false), (2, true), (5, true), (7, false), (8, true)] (by kernel_rfl) (by kernel_rfl) (by kernel_rfl) (by kernel_rfl) ?_
    haveI : Nonempty (Held (fun W => Later w W ∧ Box W w.heap.size 36 [.int .i64 26, .int .u64 (at_ : Int), .int .i64 n, .int .i64 pg, .int .i64 bt])) := ⟨⟨_, LL.out, BX.out⟩⟩
    have e2 := fun p : Held (fun W => Later w W ∧ Box W w.heap.size 36 [.int .i64 26, .int .u64 (at_ : Int), .int .i64 n, .int .i64 pg, .int .i64 bt]) => p.h.2.cell 2
    replace LL := hide (LL.out.trans (Later.refl _).drew)
    replace BX := hide (BX.out.later (Later.refl _).drew)
    replace BS := hide (BS.out.later (Later.refl _).drew)
    replace VP := hide (VP.out.later (Later.refl _).drew)
    replace OH := hide (owns_later OH.out (Later.refl _).drew)
    replace hs3 := hide (Nat.le_trans hs3.out (Later.refl w3).drew.size)
    iterate 5 (refine wpJ_mild rfl (fun K hK => ?_); go_simp; refine hK _ ?_; clear hK K)
    refine wpJ_append8 rfl (by kernel_rfl) (.tmp 53) (.tmp 54) 40 rfl w2.heap.size w2.heap.size 4 4 (mhead 26 k false) L rfl _ rfl OH.out (fun W hW => by have := src_bs (VP.out.later hW); exact this) (by have := HK.out; omega) hs3.out (fun W hW => ⟨Below.trans LL.out (hW.mono (by have := hsz.out; omega)), BX.out.below8 hW (by have := hsz.out; omega)⟩) ?_
    intro g5 c5 w5 hB ho
    replace LL : Hid (Later w w5) := Below.trans LL.out (hB.mono (by have := hsz.out; omega))
    replace BX := hide (BX.out.below8 hB (by have := hsz.out; omega))
    replace BS := hide (BS.out.below8 hB (by have := hsz.out; omega))
    have V5 := hide (Bs.of_owns ho).1
    clear hB ho OH VP
    refine wpJ_callL (fun a b hl h => ⟨h.1.trans hl, h.2.later hl⟩) rfl (by kernel_rfl) 33 (Plain.of (by kernel_rfl)) [.tmp 55, .tmp 57] _ rfl [_, .int .i64 n] rfl (fun v W => Bs W v (cutL (mhead 26 k false ++ L) n)) ⟨LL.out, BX.out⟩ (fun wx hx => rcut_c n wx (V5.out.later hx) (by have := HK.out; simp [mhead]; omega)) ?_
    intro v2 b2 hl2 hr2
    replace LL := hide (LL.out.trans hl2)
    replace BX := hide (BX.out.later hl2)
    replace BS := hide (BS.out.later hl2)
    iterate 1 (refine wpJ_mild rfl (fun K hK => ?_); go_simp; refine hK _ ?_; clear hK K)
    refine wpJ_store rfl rfl 30 (.tmp 7) (.tmp 59) rfl (w.heap.size + 1) (sc (0, 0, 0)) rfl rfl Tryz.info_sense (sc_one _) _ _ BS.out (by simp) (fun W hW => ⟨(LL.out.trans hW).setCells (Nat.le_succ _) _ _, (BX.out.later hW).apart _ (by omega) _ _⟩) ?_
    intro wl hl wz hz
    have BZ : Hid (Box wz (w.heap.size + 1) 30 (sc (0, 0, 0))) := by rw [hz.out]; exact (BS.out.later hl).all _ rfl
    have LZ : Hid (Later w wz) := by rw [hz.out]; exact (LL.out.trans hl).setCells (Nat.le_succ _) _ _
    have VZ := (hr2.later hl).setSns7 (BS.out.later hl) (sc (0, 0, 0)) 0
    rw [← hz.out] at VZ
    clear hz hl hr2 hl2 e2
    refine wpJ_nil (fun wn hn => ?_)
    replace BZ := hide (BZ.out.later hn)
    replace LZ := hide (LZ.out.trans hn)
    have VN := hide (VZ.later hn)
    clear hn VZ
    go_wp2
    refine bodyPost_ret (results_tmp_cell' rfl _ _ _ (w.heap.size + 1) 0 rfl _ _ (run_loadVar_mid _ _ _ _ (sc (0, 0, 0)) _ BZ.out.range Tryz.underlying30 rfl Tryz.info_sense) rfl) rfl ⟨_, by rw [HR.out], LZ.out, by rw [HR.out]; exact VN.out⟩
set_option maxHeartbeats 4000000 in
theorem rmanY_90_false (at_ : Nat) (n pg bt : Int) (caching : Bool) (w : World) (hb3 : (bt == 3) = false) : Calls Tryz.prog 37 #[cval (90, at_, n, pg, bt), .bool caching, .bool false] w fun e w' => ∃ v, e = .returned (.tuple #[v, sval (mansR (90, at_, n, pg, bt) caching false).2]) ∧ Later w w' ∧ Bs w' v (mansR (90, at_, n, pg, bt) caching false).1 := by
  have hbt : bt ≠ 3 := by simpa using hb3
  have BX := hide ((Box.new w 36 #[.int .i64 90, .int .u64 (at_ : Int), .int .i64 n, .int .i64 pg, .int .i64 bt]).alloc (.cells #[.int .i64 0, .int .i64 0, .int .i64 0] 30))
  have BS : Hid (Box _ (w.heap.size + 1) 30 (sc (0, 0, 0))) := Box.new' (w.alloc (.cells #[.int .i64 90, .int .u64 (at_ : Int), .int .i64 n, .int .i64 pg, .int .i64 bt] 36)) 30 #[.int .i64 0, .int .i64 0, .int .i64 0] _ rfl _ (by simp)
  have LL := hide (((Later.refl w).alloc (.cells #[.int .i64 90, .int .u64 (at_ : Int), .int .i64 n, .int .i64 pg, .int .i64 bt] 36)).alloc (.cells #[.int .i64 0, .int .i64 0, .int .i64 0] 30))
  have x0 := BX.out.cell 0
  have x1 := BX.out.cell 1
  have x2 := BX.out.cell 2
  have x3 := BX.out.cell 3
  have x4 := BX.out.cell 4
  go_enter Tryz.func37, Tryz.ntmps37
  go_wp2_with fail
  generalize ((w.alloc (.cells #[.int .i64 90, .int .u64 (at_ : Int), .int .i64 n, .int .i64 pg, .int .i64 bt] 36)).alloc (.cells #[.int .i64 0, .int .i64 0, .int .i64 0] 30)) = w1 at *
  refine (rmpage_c pg bt caching _).mono ?_
  rintro e w2 ⟨vp, rfl, hl, hp⟩
  replace LL := hide (LL.out.trans hl)
  replace BX := hide (BX.out.later hl)
  replace BS := hide (BS.out.later hl)
  have VP := hide hp
  clear hl hp x0 x1 x2 x3 x4
  have x0 := BX.out.cell 0
  have x1 := BX.out.cell 1
  have x2 := BX.out.cell 2
  have x3 := BX.out.cell 3
  have x4 := BX.out.cell 4
  cases hmp : mpB pg with
  | false =>
    have HR : Hid (mansR (90, at_, n, pg, bt) caching false = ([], (5, 36, 0))) := by simp [Hid, mansR, hbt, hmp]
    clear hbt hmp
    go_wp2_with fail
    refine (rof_c 5 36 0 _).mono ?_
    rintro e w2 ⟨rfl, hl⟩
    replace LL := hide (LL.out.trans hl)
    replace BS := hide (BS.out.later hl)
    clear hl
    go_wp2_with (refine wpList_storeU rfl 30 (.tmp 7) (.tmp 36) rfl (w.heap.size + 1) 0 rfl (sc (5, 36, 0)) rfl Tryz.info_sense (sc_one _) _ _ BS.out (by simp) ?_)
    intro wz hz
    have BZ : Hid (Box wz (w.heap.size + 1) 30 (sc (5, 36, 0))) := by rw [hz.out]; exact BS.out.all _ rfl
    have LZ : Hid (Later w wz) := by rw [hz.out]; exact LL.out.setCells (Nat.le_succ _) _ _
    clear hz
    go_wp2
    refine bodyPost_ret (results_tmp_cell' rfl _ _ _ (w.heap.size + 1) 0 rfl _ _ (run_loadVar_mid _ _ _ _ (sc (5, 36, 0)) _ BZ.out.range Tryz.underlying30 rfl Tryz.info_sense) rfl) rfl ⟨_, by rw [HR.out], LZ.out, by rw [HR.out]; exact (Bs.nil _)⟩
  | true =>
    obtain ⟨L, hL⟩ : ∃ L, L = mpL pg bt caching := ⟨_, rfl⟩
    have HR : Hid (mansR (90, at_, n, pg, bt) caching false = (cutL (mhead 90 L.length false ++ L) n, (0, 0, 0))) := by simp [Hid, mansR, hbt, hmp, hL]
    have hL32 : L.length ≤ 32 := by rw [hL]; exact mpL_len _ _ _
    rw [← hL] at VP
    clear hL hmp hbt
    have VP2 := VP.out
    obtain ⟨hv1, pa, pc, rfl, hv2, hv3⟩ := VP2
    clear hv1 hv2 hv3
    obtain ⟨k, hk⟩ : ∃ k, k = L.length := ⟨_, rfl⟩
    rw [← hk] at VP HR hL32 ⊢
    have HK := hide hk
    clear hk
    have y0 := (BX.out.alloc (.cells #[.int .u8 ((k : Int) + 3), .int .u8 0, .int .u8 0, .int .u8 0] 5)).cell 0
    have hsz : Hid (w.heap.size + 1 < w2.heap.size) := BS.out.lt
    go_wp2_with fail
    clear x0 x1 x2 x3 x4 y0
    have BH : Hid (Box ((w2.alloc (.cells #[.int .u8 ((k : Int) + 3), .int .u8 0, .int .u8 0, .int .u8 0] 5)).alloc (.cells #[.int .u8 0, .int .u8 ((k : Int) + 6), .int .u8 0, .int .u8 0, .int .u8 0, .int .u8 0, .int .u8 0, .int .u8 0] 5)) (w2.heap.size + 1) 5 (bv (mhead 90 k false))) := by
      rw [Hid, mhead_90 k hL32]; exact Box.new' _ _ _ _ rfl _ (by simp)
    have OH := hide (owns_box (B := w2.heap.size) (n := 8) BH.out rfl (by decide) (Nat.le_succ _))
    have L3 := hide (((Later.refl w2).alloc (.cells #[.int .u8 ((k : Int) + 3), .int .u8 0, .int .u8 0, .int .u8 0] 5)).alloc (.cells #[.int .u8 0, .int .u8 ((k : Int) + 6), .int .u8 0, .int .u8 0, .int .u8 0, .int .u8 0, .int .u8 0, .int .u8 0] 5))
    generalize (w2.alloc (.cells #[.int .u8 ((k : Int) + 3), .int .u8 0, .int .u8 0, .int .u8 0] 5)).alloc (.cells #[.int .u8 0, .int .u8 ((k : Int) + 6), .int .u8 0, .int .u8 0, .int .u8 0, .int .u8 0, .int .u8 0, .int .u8 0] 5) = w3 at *
    replace LL := hide (LL.out.trans L3.out)
    replace BX := hide (BX.out.later L3.out)
    replace BS := hide (BS.out.later L3.out)
    replace VP := hide (VP.out.later L3.out)
    have hs3 : Hid (w2.heap.size ≤ w3.heap.size) := L3.out.size
    clear BH L3
    refine wp_region_held (fun W => Later w W ∧ Box W w.heap.size 36 [.int .i64 90, .int .u64 (at_ : Int), .int .i64 n, .int .i64 pg, .int .i64 bt]) (fun a b hl h => ⟨h.1.trans hl, h.2.later hl⟩) ⟨LL.out, BX.out⟩ [(0, false), (1, false), (3, false), (4, false), (6, false), (2, true), (5, true), (7, false), (8, true)] (by kernel_rfl) (by kernel_rfl) (by kernel_rfl) (by kernel_rfl) ?_
    haveI : Nonempty (Held (fun W => Later w W ∧ Box W w.heap.size 36 [.int .i64 90, .int .u64 (at_ : Int), .int .i64 n, .int .i64 pg, .int .i64 bt])) := ⟨⟨_, LL.out, BX.out⟩⟩
    have e2 := fun p : Held (fun W => Later w W ∧ Box W w.heap.size 36 [.int .i64 90, .int .u64 (at_ : Int), .int .i64 n, .int .i64 pg, .int .i64 bt]) => p.h.2.cell 2
    replace LL := hide (LL.out.trans (Later.refl _).drew)
    replace BX := hide (BX.out.later (Later.refl _).drew)
    replace BS := hide (BS.out.later (Later.refl _).drew)
    replace VP := hide (VP.out.later (Later.refl _).drew)
    replace OH := hide (owns_later OH.out (Later.refl _).drew)
    replace hs3 := hide (Nat.le_trans hs3.out (Later.refl w3).drew.size)
    iterate 5 (refine wpJ_mild rfl (fun K hK => ?_); go_simp; refine hK _ ?_; clear hK K)
    refine wpJ_append8 rfl (by kernel_rfl) (.tmp 53) (.tmp 54) 40 rfl w2.heap.size (w2.heap.size + 1) 8 8 (mhead 90 k false) L rfl _ rfl OH.out (fun W hW => by have := src_bs (VP.out.later hW); exact this) (by have := HK.out; omega) hs3.out (fun W hW => ⟨Below.trans LL.out (hW.mono (by have := hsz.out; omega)), BX.out.below8 hW (by have := hsz.out; omega)⟩) ?_
    intro g5 c5 w5 hB ho
    replace LL : Hid (Later w w5) := Below.trans LL.out (hB.mono (by have := hsz.out; omega))
    replace BX := hide (BX.out.below8 hB (by have := hsz.out; omega))
    replace BS := hide (BS.out.below8 hB (by have := hsz.out; omega))
    have V5 := hide (Bs.of_owns ho).1
    clear hB ho OH VP
    refine wpJ_callL (fun a b hl h => ⟨h.1.trans hl, h.2.later hl⟩) rfl (by kernel_rfl) 33 (Plain.of (by kernel_rfl)) [.tmp 55, .tmp 57] _ rfl [_, .int .i64 n] rfl (fun v W => Bs W v (cutL (mhead 90 k false ++ L) n)) ⟨LL.out, BX.out⟩ (fun wx hx => rcut_c n wx (V5.out.later hx) (by have := HK.out; simp [mhead]; omega)) ?_
    intro v2 b2 hl2 hr2
    replace LL := hide (LL.out.trans hl2)
    replace BX := hide (BX.out.later hl2)
    replace BS := hide (BS.out.later hl2)
    iterate 1 (refine wpJ_mild rfl (fun K hK => ?_); go_simp; refine hK _ ?_; clear hK K)
    refine wpJ_store rfl rfl 30 (.tmp 7) (.tmp 59) rfl (w.heap.size + 1) (sc (0, 0, 0)) rfl rfl Tryz.info_sense (sc_one _) _ _ BS.out (by simp) (fun W hW => ⟨(LL.out.trans hW).setCells (Nat.le_succ _) _ _, (BX.out.later hW).apart _ (by omega) _ _⟩) ?_
    intro wl hl wz hz
    have BZ : Hid (Box wz (w.heap.size + 1) 30 (sc (0, 0, 0))) := by rw [hz.out]; exact (BS.out.later hl).all _ rfl
    have LZ : Hid (Later w wz) := by rw [hz.out]; exact (LL.out.trans hl).setCells (Nat.le_succ _) _ _
    have VZ := (hr2.later hl).setSns7 (BS.out.later hl) (sc (0, 0, 0)) 0
    rw [← hz.out] at VZ
    clear hz hl hr2 hl2 e2
    refine wpJ_nil (fun wn hn => ?_)
    replace BZ := hide (BZ.out.later hn)
    replace LZ := hide (LZ.out.trans hn)
    have VN := hide (VZ.later hn)
    clear hn VZ
    go_wp2
    refine bodyPost_ret (results_tmp_cell' rfl _ _ _ (w.heap.size + 1) 0 rfl _ _ (run_loadVar_mid _ _ _ _ (sc (0, 0, 0)) _ BZ.out.range Tryz.underlying30 rfl Tryz.info_sense) rfl) rfl ⟨_, by rw [HR.out], LZ.out, by rw [HR.out]; exact VN.out⟩
set_option maxHeartbeats 4000000 in
theorem rmanswer_c (c : Cmd) (caching protect : Bool) (w : World) : Calls Tryz.prog 37 #[cval c, .bool caching, .bool protect] w fun e w' => ∃ v, e = .returned (.tuple #[v, sval (mansR c caching protect).2]) ∧ Later w w' ∧ Bs w' v (mansR c caching protect).1 := by
  obtain ⟨op, at_, n, pg, bt⟩ := c
  by_cases hop : op ≠ 26 ∧ op ≠ 90
  · have HR : Hid (mansR (op, at_, n, pg, bt) caching protect = ([], (5, 36, 0))) := by simp [Hid, mansR, hop]
    have hb1 : (op != 26) = true := by simp [hop.1]
    have hb2 : (op != 90) = true := by simp [hop.2]
    clear hop
    have BX := hide ((Box.new w 36 #[.int .i64 op, .int .u64 (at_ : Int), .int .i64 n, .int .i64 pg, .int .i64 bt]).alloc (.cells #[.int .i64 0, .int .i64 0, .int .i64 0] 30))
    have BS : Hid (Box _ (w.heap.size + 1) 30 (sc (0, 0, 0))) := Box.new' (w.alloc (.cells #[.int .i64 op, .int .u64 (at_ : Int), .int .i64 n, .int .i64 pg, .int .i64 bt] 36)) 30 #[.int .i64 0, .int .i64 0, .int .i64 0] _ rfl _ (by simp)
    have LL := hide (((Later.refl w).alloc (.cells #[.int .i64 op, .int .u64 (at_ : Int), .int .i64 n, .int .i64 pg, .int .i64 bt] 36)).alloc (.cells #[.int .i64 0, .int .i64 0, .int .i64 0] 30))
    have x0 := BX.out.cell 0
    have x1 := BX.out.cell 1
    have x2 := BX.out.cell 2
    have x3 := BX.out.cell 3
    have x4 := BX.out.cell 4
    go_enter Tryz.func37, Tryz.ntmps37
    go_wp2_with fail
    refine (rof_c 5 36 0 _).mono ?_
    rintro e w2 ⟨rfl, hl⟩
    replace LL := hide (LL.out.trans hl)
    replace BS := hide (BS.out.later hl)
    clear hl
    go_wp2_with (refine wpList_storeU rfl 30 (.tmp 7) (.tmp 20) rfl (w.heap.size + 1) 0 rfl (sc (5, 36, 0)) rfl Tryz.info_sense (sc_one _) _ _ BS.out (by simp) ?_)
    intro wz hz
    have BZ : Hid (Box wz (w.heap.size + 1) 30 (sc (5, 36, 0))) := by rw [hz.out]; exact BS.out.all _ rfl
    have LZ : Hid (Later w wz) := by rw [hz.out]; exact LL.out.setCells (Nat.le_succ _) _ _
    clear hz
    go_wp2
    refine bodyPost_ret (results_tmp_cell' rfl _ _ _ (w.heap.size + 1) 0 rfl _ _ (run_loadVar_mid _ _ _ _ (sc (5, 36, 0)) _ BZ.out.range Tryz.underlying30 rfl Tryz.info_sense) rfl) rfl ⟨_, by rw [HR.out], LZ.out, by rw [HR.out]; exact (Bs.nil _)⟩
  by_cases hbt : bt = 3
  · have hb3 : (bt == 3) = true := by simp [hbt]
    have HR : Hid (mansR (op, at_, n, pg, bt) caching protect = ([], (5, 57, 0))) := by simp [Hid, mansR, hop, hbt]
    clear hbt
    have HO : Hid ((op != 26 && op != 90) = false) := by rw [Hid]; simp; omega
    rcases (show op = 26 ∨ op = 90 by omega) with rfl | rfl
    · clear hop HO
      have BX := hide ((Box.new w 36 #[.int .i64 26, .int .u64 (at_ : Int), .int .i64 n, .int .i64 pg, .int .i64 bt]).alloc (.cells #[.int .i64 0, .int .i64 0, .int .i64 0] 30))
      have BS : Hid (Box _ (w.heap.size + 1) 30 (sc (0, 0, 0))) := Box.new' (w.alloc (.cells #[.int .i64 26, .int .u64 (at_ : Int), .int .i64 n, .int .i64 pg, .int .i64 bt] 36)) 30 #[.int .i64 0, .int .i64 0, .int .i64 0] _ rfl _ (by simp)
      have LL := hide (((Later.refl w).alloc (.cells #[.int .i64 26, .int .u64 (at_ : Int), .int .i64 n, .int .i64 pg, .int .i64 bt] 36)).alloc (.cells #[.int .i64 0, .int .i64 0, .int .i64 0] 30))
      have x0 := BX.out.cell 0
      have x1 := BX.out.cell 1
      have x2 := BX.out.cell 2
      have x3 := BX.out.cell 3
      have x4 := BX.out.cell 4
      go_enter Tryz.func37, Tryz.ntmps37
      go_wp2_with fail
      refine (rof_c 5 57 0 _).mono ?_
      rintro e w2 ⟨rfl, hl⟩
      replace LL := hide (LL.out.trans hl)
      replace BS := hide (BS.out.later hl)
      clear hl
      go_wp2_with (refine wpList_storeU rfl 30 (.tmp 7) (.tmp 24) rfl (w.heap.size + 1) 0 rfl (sc (5, 57, 0)) rfl Tryz.info_sense (sc_one _) _ _ BS.out (by simp) ?_)
      intro wz hz
      have BZ : Hid (Box wz (w.heap.size + 1) 30 (sc (5, 57, 0))) := by rw [hz.out]; exact BS.out.all _ rfl
      have LZ : Hid (Later w wz) := by rw [hz.out]; exact LL.out.setCells (Nat.le_succ _) _ _
      clear hz
      go_wp2
      refine bodyPost_ret (results_tmp_cell' rfl _ _ _ (w.heap.size + 1) 0 rfl _ _ (run_loadVar_mid _ _ _ _ (sc (5, 57, 0)) _ BZ.out.range Tryz.underlying30 rfl Tryz.info_sense) rfl) rfl ⟨_, by rw [HR.out], LZ.out, by rw [HR.out]; exact (Bs.nil _)⟩
    · clear hop HO
      have BX := hide ((Box.new w 36 #[.int .i64 90, .int .u64 (at_ : Int), .int .i64 n, .int .i64 pg, .int .i64 bt]).alloc (.cells #[.int .i64 0, .int .i64 0, .int .i64 0] 30))
      have BS : Hid (Box _ (w.heap.size + 1) 30 (sc (0, 0, 0))) := Box.new' (w.alloc (.cells #[.int .i64 90, .int .u64 (at_ : Int), .int .i64 n, .int .i64 pg, .int .i64 bt] 36)) 30 #[.int .i64 0, .int .i64 0, .int .i64 0] _ rfl _ (by simp)
      have LL := hide (((Later.refl w).alloc (.cells #[.int .i64 90, .int .u64 (at_ : Int), .int .i64 n, .int .i64 pg, .int .i64 bt] 36)).alloc (.cells #[.int .i64 0, .int .i64 0, .int .i64 0] 30))
      have x0 := BX.out.cell 0
      have x1 := BX.out.cell 1
      have x2 := BX.out.cell 2
      have x3 := BX.out.cell 3
      have x4 := BX.out.cell 4
      go_enter Tryz.func37, Tryz.ntmps37
      go_wp2_with fail
      refine (rof_c 5 57 0 _).mono ?_
      rintro e w2 ⟨rfl, hl⟩
      replace LL := hide (LL.out.trans hl)
      replace BS := hide (BS.out.later hl)
      clear hl
      go_wp2_with (refine wpList_storeU rfl 30 (.tmp 7) (.tmp 24) rfl (w.heap.size + 1) 0 rfl (sc (5, 57, 0)) rfl Tryz.info_sense (sc_one _) _ _ BS.out (by simp) ?_)
      intro wz hz
      have BZ : Hid (Box wz (w.heap.size + 1) 30 (sc (5, 57, 0))) := by rw [hz.out]; exact BS.out.all _ rfl
      have LZ : Hid (Later w wz) := by rw [hz.out]; exact LL.out.setCells (Nat.le_succ _) _ _
      clear hz
      go_wp2
      refine bodyPost_ret (results_tmp_cell' rfl _ _ _ (w.heap.size + 1) 0 rfl _ _ (run_loadVar_mid _ _ _ _ (sc (5, 57, 0)) _ BZ.out.range Tryz.underlying30 rfl Tryz.info_sense) rfl) rfl ⟨_, by rw [HR.out], LZ.out, by rw [HR.out]; exact (Bs.nil _)⟩
  have hb3 : (bt == 3) = false := by simp [hbt]
  rcases (show op = 26 ∨ op = 90 by omega) with rfl | rfl
  · cases protect with
    | true => exact rmanY_26_true at_ n pg bt caching w hb3
    | false => exact rmanY_26_false at_ n pg bt caching w hb3
  · cases protect with
    | true => exact rmanY_90_true at_ n pg bt caching w hb3
    | false => exact rmanY_90_false at_ n pg bt caching w hb3
end Go.Proofs.YtfakboehmcimpaaGreat

namespace Go.Proofs.YtfakboehmcimpaaGreat
open Go.ChangeShapes Go.WideShapes Go.ChangeAt Go.RowKit
set_option linter.unusedVariables false
set_option maxRecDepth 4000
set_option linter.unusedSimpArgs false
/-! lay: a number into bytes. -/
theorem Tryz.info1_u8 : (Tryz.prog.info? 5).map (·.size) = some 1 := by kernel_rfl
theorem owns_of_box {w : World} {g n : Nat} {e : TypeId} {l : List UInt8} (h : Box w g e (bv l)) (hl : l.length = n) (hm : n ≤ 100) : w.ownsRow 0 e 1 (.slice (some ⟨g, 0, none⟩) n n) n (bv l) :=
  ⟨by rw [bv_length]; omega, .inr ⟨g, n, (bv l).toArray, rfl, Nat.zero_le _, h, Nat.le_refl _, by unfold maxLen; omega, by simp [bv_length]; omega, List.take_of_length_le (by simp [bv_length]; omega)⟩⟩
end Go.Proofs.YtfakboehmcimpaaGreat

namespace Go.Proofs.YtfakboehmcimpaaGreat
open Go.ChangeShapes Go.WideShapes Go.ChangeAt Go.RowKit
set_option linter.unusedVariables false
set_option maxRecDepth 4000
set_option linter.unusedSimpArgs false
/-! lay of a form: a command into bytes. -/
end Go.Proofs.YtfakboehmcimpaaGreat

namespace Go.Proofs.YtfakboehmcimpaaGreat
open Go.ChangeShapes Go.WideShapes Go.ChangeAt Go.RowKit
set_option linter.unusedVariables false
set_option maxRecDepth 4000
set_option linter.unusedSimpArgs false
/-! Bytes that are made, and one of them that is set: the world behind it stands by itself. -/
theorem wpList_makeB {w : World} {ops : Array Oper} {rest : List Oper} {o : Oper} {a : Act} {Q : Exit → Act → World → Prop} (hg : o.guard = none) (l c : Operand) (hop : o.op = Op.makeSlice 40 l c) (n : Nat) (hl : a.eval l = .int .i64 (n : Int)) (hc : a.eval c = .int .i64 (n : Int)) (hn : n ≤ 100000)
    (h : ∀ (g : Nat) (w' : World), Box w' g 5 (bv (List.replicate n 0)) → Later w w' → Hid (g = w.heap.size) → wpList Tryz.prog ops Q rest (a.put o.dst (.slice (some ⟨g, 0, none⟩) n n)) w') : wpList Tryz.prog ops Q (o :: rest) a w := by
  refine wpList_plain hg fun K hK => ?_
  have hrun := run_make_row' (P := Tryz.prog) 40 5 (.int .u8 0) 1 Tryz.underlying40 Tryz.info_u8 rfl .i64 .i64 n (by omega) (by omega) w
  unfold Go.Oper.wp
  simp [execOp, hop, hl, hc, hrun, Result.andThen]
  exact hK _ _ (h _ _ (Box.new' _ _ _ _ (made_zero n) _ rfl) ((Later.refl w).alloc _) rfl)
theorem wpList_storeB {P : Program} {w : World} {ops : Array Oper} {rest : List Oper} {op : Oper} {a : Act} {Q : Exit → Act → World → Prop} (hgd : op.guard = none) (ty : TypeId) (x y : Operand) (ho : op.op = .store ty x y) (g o : Nat) (hx : a.eval x = .pointer (some ⟨g, o, none⟩)) (z : Int) (hy : a.eval y = .int .u8 z)
    (hs : (P.info? ty).map (·.size) = some 1) (t : TypeId) (l : List UInt8) (hB : Box w g t (bv l)) (hl : o < l.length) (b : UInt8) (hb : z = (b.toNat : Int))
    (h : ∀ w', Box w' g t (bv (l.set o b)) → Hid (w' = w.setCells g o [.int .u8 z]) → wpList P ops Q rest (a.put op.dst undef) w') : wpList P ops Q (op :: rest) a w := by
  refine wpList_plain hgd fun K hK => ?_
  have hl' : o < (bv l).length := by rw [bv_length]; exact hl
  have hc : w.cell? ⟨g, o, none⟩ = some ((bv l)[o]'hl') := by rw [hB.cell o, List.getElem?_eq_getElem hl']
  have hf := hB.frozen o
  have hrun : (Instr.storeAt ty (.pointer (some ⟨g, o, none⟩)) (.int .u8 z)).run P w = .ok () (w.setCells g o [.int .u8 z]) := by
    simp [Instr.storeAt, Instr.sureAddr, storeVar, run_size hs, Value.cells, World.setCells]
    go_simp
  have hB2 : Box (w.setCells g o [.int .u8 z]) g t (bv (l.set o b)) := by
    rw [bv_set, ← hb]
    exact hB.set o _
  unfold Go.Oper.wp
  simp [execOp, ho, hx, hy, hrun, Result.andThen]
  exact hK _ _ (h _ hB2 rfl)
/-! Bytes. -/
end Go.Proofs.YtfakboehmcimpaaGreat

namespace Go.Proofs.YtfakboehmcimpaaGreat
open Go.ChangeShapes Go.WideShapes Go.ChangeAt Go.RowKit
set_option linter.unusedVariables false
set_option maxRecDepth 4000
set_option linter.unusedSimpArgs false
/-! The document's cdb: Known, Size, big. -/
end Go.Proofs.YtfakboehmcimpaaGreat
