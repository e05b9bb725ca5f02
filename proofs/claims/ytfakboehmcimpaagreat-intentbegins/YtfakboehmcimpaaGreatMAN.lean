import Derived.Deep.AppendSrc
import Derived.Test.YtfakboehmcimpaaGreatMAL
import Derived.Test.YtfakboehmcimpaaGreatMAM
namespace Go.Proofs.YtfakboehmcimpaaGreat
open Go.ChangeShapes Go.WideShapes Go.ChangeAt Go.RowKit
set_option linter.unusedVariables false
set_option maxRecDepth 4000
set_option linter.unusedSimpArgs false
/-! Answer: to a command. -/
/-- a call that makes memory, where it alone may come up -/
theorem wpJ_callL {P : Program} {ops : Array Oper} {I : World → Prop} (hI : ∀ w w', Later w w' → I w → I w') {Q : Act → World → Prop} {i : Nat} {o : Oper} {σ : List (Nat × Bool)} {a : Act} {b : World} (ho : ops[i]? = some o) (hw : Region.wanted o (yielded ops a.tmps) = true) (f : FuncId) (hp : Plain P f) (xs : List Operand) (ts : Array TypeId) (hop : o.op = .call { callee := .value (.func f), args := xs.toArray, argTypes := ts }) (us : List Value) (hx : xs.map a.eval = us)
    (R : Value → World → Prop) (hb : I b) (hc : ∀ w, Later b w → Calls P f us.toArray w fun e w' => ∃ v, e = .returned v ∧ Later w w' ∧ R v w')
    (h : ∀ v b', Later b b' → R v b' → wpJ P ops I Q σ (a.put o.dst v) b') : wpJ P ops I Q ((i, true) :: σ) a b := by
  intro w hl
  unfold jOp
  simp only [ho]
  rw [if_pos hw, run_call f hp xs ts hop us hx]
  exact ⟨rfl, (hc w hl).mono fun e w' ⟨v, e1, l1, r1⟩ => ⟨v, e1, hI _ _ (hl.trans l1) hb, h v w' (hl.trans l1) r1⟩⟩
def thereB (lun luns : Int) : Bool := decide (0 ≤ lun) && decide (lun < luns)
def ansR (c : Cmd) (lun luns : Int) : List UInt8 × Sns :=
  if c.1 ≠ 18 then ([], (5, 36, 0))
  else if c.2.2.2.2 ≠ 1 then (cutL (stdL (thereB lun luns)) c.2.2.1, (0, 0, 0))
  else (cutL (pageL c.2.2.2.1 lun (thereB lun luns)) c.2.2.1, pageS c.2.2.2.1)
theorem stdL_len (there : Bool) : (stdL there).length = 36 := rfl
set_option maxHeartbeats 4000000 in
theorem ranswer_c (c : Cmd) (lun luns : Int) (w : World) (hlun : -9223372036854775808 ≤ lun ∧ lun ≤ 9223372036854775807) : Calls Tryz.prog 36 #[cval c, .int .i64 lun, .int .i64 luns] w fun e w' => ∃ v, e = .returned (.tuple #[v, sval (ansR c lun luns).2]) ∧ Later w w' ∧ Bs w' v (ansR c lun luns).1 := by
  obtain ⟨op, at_, n, pg, bt⟩ := c
  have BX := hide ((Box.new w 36 #[.int .i64 op, .int .u64 (at_ : Int), .int .i64 n, .int .i64 pg, .int .i64 bt]).alloc (.cells #[.int .i64 0, .int .i64 0, .int .i64 0] 30))
  have BS : Hid (Box _ (w.heap.size + 1) 30 (sc (0, 0, 0))) := Box.new' (w.alloc (.cells #[.int .i64 op, .int .u64 (at_ : Int), .int .i64 n, .int .i64 pg, .int .i64 bt] 36)) 30 #[.int .i64 0, .int .i64 0, .int .i64 0] _ rfl _ (by simp)
  have LL := hide (((Later.refl w).alloc (.cells #[.int .i64 op, .int .u64 (at_ : Int), .int .i64 n, .int .i64 pg, .int .i64 bt] 36)).alloc (.cells #[.int .i64 0, .int .i64 0, .int .i64 0] 30))
  by_cases hop : op = 18
  case neg =>
    have HR : Hid (ansR (op, at_, n, pg, bt) lun luns = ([], (5, 36, 0))) := by simp [Hid, ansR, hop]
    have hopb : (op != 18) = true := by simp [hop]
    clear hop
    go_enter Tryz.func36, Tryz.ntmps36
    go_wp2_with fail
    generalize ((w.alloc (.cells #[.int .i64 op, .int .u64 (at_ : Int), .int .i64 n, .int .i64 pg, .int .i64 bt] 36)).alloc (.cells #[.int .i64 0, .int .i64 0, .int .i64 0] 30)) = w1 at *
    refine (rof_c 5 36 0 _).mono ?_
    rintro e w2 ⟨rfl, hl⟩
    replace LL := hide (LL.out.trans hl)
    replace BS := hide (BS.out.later hl)
    clear hl
    go_wp2_with (refine wpList_storeU rfl 30 (.tmp 7) (.tmp 14) rfl (w.heap.size + 1) 0 rfl (sc (5, 36, 0)) rfl Tryz.info_sense (sc_one _) _ _ BS.out (by simp) ?_)
    intro wz hz
    have BZ : Hid (Box wz (w.heap.size + 1) 30 (sc (5, 36, 0))) := by rw [hz.out]; exact BS.out.all _ rfl
    have LZ : Hid (Later w wz) := by rw [hz.out]; exact LL.out.setCells (Nat.le_succ _) _ _
    clear hz
    go_wp2
    refine bodyPost_ret (results_tmp_cell' rfl _ _ _ (w.heap.size + 1) 0 rfl _ _ (run_loadVar_mid _ _ _ _ (sc (5, 36, 0)) _ BZ.out.range Tryz.underlying30 rfl Tryz.info_sense) rfl) rfl ⟨_, by rw [HR.out], LZ.out, by rw [HR.out]; exact (Bs.nil _)⟩
  subst hop
  have HT : Hid (thereB lun luns = (decide (0 ≤ lun) && decide (lun < luns))) := rfl
  have HA : Hid (ansR (18, at_, n, pg, bt) lun luns = if bt ≠ 1 then (cutL (stdL (thereB lun luns)) n, (0, 0, 0)) else (cutL (pageL pg lun (thereB lun luns)) n, pageS pg)) := by simp [Hid, ansR]
  generalize thereB lun luns = th at *
  have x0 := BX.out.cell 0
  have x1 := BX.out.cell 1
  have x2 := BX.out.cell 2
  have x3 := BX.out.cell 3
  have x4 := BX.out.cell 4
  go_enter Tryz.func36, Tryz.ntmps36
  cases ha : decide (0 ≤ lun) with
  | false =>
    have ht : th = false := by rw [HT.out, ha]; rfl
    subst ht
    clear HT
    by_cases hb : bt = 1
    case neg =>
      have hbb : (bt != 1) = true := by simp [hb]
      have HR : Hid (ansR (18, at_, n, pg, bt) lun luns = (cutL (stdL false) n, (0, 0, 0))) := by rw [Hid, HA.out, if_pos hb]
      clear hb
      go_wp2_with fail
      clear x0 x1 x2 x3 x4
      generalize ((w.alloc (.cells #[.int .i64 18, .int .u64 (at_ : Int), .int .i64 n, .int .i64 pg, .int .i64 bt] 36)).alloc (.cells #[.int .i64 0, .int .i64 0, .int .i64 0] 30)) = w1 at *
      refine wp_region_held (fun W => Later w W ∧ Box W w.heap.size 36 [.int .i64 18, .int .u64 (at_ : Int), .int .i64 n, .int .i64 pg, .int .i64 bt]) (fun a b hl h => ⟨h.1.trans hl, h.2.later hl⟩) ⟨LL.out, BX.out⟩ [(0, false), (2, false), (3, false), (5, false), (1, true), (4, true), (6, false), (7, true)] (by kernel_rfl) (by kernel_rfl) (by kernel_rfl) (by kernel_rfl) ?_
      haveI : Nonempty (Held (fun W => Later w W ∧ Box W w.heap.size 36 [.int .i64 18, .int .u64 (at_ : Int), .int .i64 n, .int .i64 pg, .int .i64 bt])) := ⟨⟨_, LL.out, BX.out⟩⟩
      have e2 := fun p : Held (fun W => Later w W ∧ Box W w.heap.size 36 [.int .i64 18, .int .u64 (at_ : Int), .int .i64 n, .int .i64 pg, .int .i64 bt]) => p.h.2.cell 2
      replace LL := hide (LL.out.trans (Later.refl _).drew)
      replace BX := hide (BX.out.later (Later.refl _).drew)
      replace BS := hide (BS.out.later (Later.refl _).drew)
      iterate 4 (refine wpJ_mild rfl (fun K hK => ?_); go_simp; refine hK _ ?_; clear hK K)
      refine wpJ_callL (fun a b hl h => ⟨h.1.trans hl, h.2.later hl⟩) rfl (by kernel_rfl) 79 (Plain.of (by kernel_rfl)) [.tmp 25] _ rfl [.bool false] rfl (fun v W => Bs W v (stdL false)) ⟨LL.out, BX.out⟩ (fun wx hx => rstandard_c false wx) ?_
      intro v1 b1 hl1 hr1
      replace LL := hide (LL.out.trans hl1)
      replace BX := hide (BX.out.later hl1)
      replace BS := hide (BS.out.later hl1)
      clear hl1
      refine wpJ_callL (fun a b hl h => ⟨h.1.trans hl, h.2.later hl⟩) rfl (by kernel_rfl) 33 (Plain.of (by kernel_rfl)) [.tmp 26, .tmp 28] _ rfl [v1, .int .i64 n] rfl (fun v W => Bs W v (cutL (stdL false) n)) ⟨LL.out, BX.out⟩ (fun wx hx => rcut_c n wx (hr1.later hx) (by rw [stdL_len]; decide)) ?_
      intro v2 b2 hl2 hr2
      replace LL := hide (LL.out.trans hl2)
      replace BX := hide (BX.out.later hl2)
      replace BS := hide (BS.out.later hl2)
      clear hr1
      iterate 1 (refine wpJ_mild rfl (fun K hK => ?_); go_simp; refine hK _ ?_; clear hK K)
      refine wpJ_store rfl rfl 30 (.tmp 7) (.tmp 30) rfl (w.heap.size + 1) (sc (0, 0, 0)) rfl rfl Tryz.info_sense (sc_one _) _ _ BS.out (by simp) (fun W hW => ⟨(LL.out.trans hW).setCells (Nat.le_succ _) _ _, (BX.out.later hW).apart _ (by omega) _ _⟩) ?_
      intro wl hl wz hz
      have BZ : Hid (Box wz (w.heap.size + 1) 30 (sc (0, 0, 0))) := by rw [hz.out]; exact (BS.out.later hl).all _ rfl
      have LZ : Hid (Later w wz) := by rw [hz.out]; exact (LL.out.trans hl).setCells (Nat.le_succ _) _ _
      have VZ := (hr2.later hl).setSns7 (BS.out.later hl) (sc (0, 0, 0)) 0
      rw [← hz.out] at VZ
      clear hz hl hr2 hl2 e2
      refine wpJ_nil (fun wn hn => ?_)
      replace BZ := hide (BZ.out.later hn)
      replace LZ := hide (LZ.out.trans hn)
      have VN := hide (VZ.later hn)
      clear hn VZ
      go_wp2
      refine bodyPost_ret (results_tmp_cell' rfl _ _ _ (w.heap.size + 1) 0 rfl _ _ (run_loadVar_mid _ _ _ _ (sc (0, 0, 0)) _ BZ.out.range Tryz.underlying30 rfl Tryz.info_sense) rfl) rfl ⟨_, by rw [HR.out], LZ.out, by rw [HR.out]; exact VN.out⟩
    subst hb
    have HR : Hid (ansR (18, at_, n, pg, 1) lun luns = (cutL (pageL pg lun false) n, pageS pg)) := by rw [Hid, HA.out, if_neg (by simp)]
    go_wp2_with fail
    clear x0 x1 x2 x3 x4
    generalize ((w.alloc (.cells #[.int .i64 18, .int .u64 (at_ : Int), .int .i64 n, .int .i64 pg, .int .i64 1] 36)).alloc (.cells #[.int .i64 0, .int .i64 0, .int .i64 0] 30)) = w1 at *
    refine (rpage_c pg lun false _ hlun).mono ?_
    rintro e w2 ⟨vp, rfl, hl, hp⟩
    replace LL := hide (LL.out.trans hl)
    replace BX := hide (BX.out.later hl)
    replace BS := hide (BS.out.later hl)
    have VP := hide hp
    clear hl hp
    generalize pageS pg = sp at *
    go_wp2_with (refine wpList_newAS rfl rfl rfl rfl 10 9 rfl rfl (by simp) (by decide) (.tmp 37) (.tmp 38) (by simp) (by simp) (by simp) rfl rfl rfl _ sp rfl rfl ?_)
    intro g10 w3 hB hl hg
    have hg10 : Hid (w.heap.size + 1 < g10) := by rw [Hid, hg.out]; exact BS.out.lt
    replace LL := hide (LL.out.trans hl)
    replace BX := hide (BX.out.later hl)
    replace BS := hide (BS.out.later hl)
    replace VP := hide (VP.out.later hl)
    have B10 := hide hB
    clear hl hg hB
    go_wp2_with fail
    refine wp_region_held (fun W => (Later w W ∧ Box W w.heap.size 36 [.int .i64 18, .int .u64 (at_ : Int), .int .i64 n, .int .i64 pg, .int .i64 1]) ∧ Box W g10 30 (sc sp)) (fun a b hl h => ⟨⟨h.1.1.trans hl, h.1.2.later hl⟩, h.2.later hl⟩) ⟨⟨LL.out, BX.out⟩, B10.out⟩ [(0, false), (1, false), (2, false), (4, false), (3, true), (5, false), (6, true)] (by kernel_rfl) (by kernel_rfl) (by kernel_rfl) (by kernel_rfl) ?_
    haveI : Nonempty (Held (fun W => (Later w W ∧ Box W w.heap.size 36 [.int .i64 18, .int .u64 (at_ : Int), .int .i64 n, .int .i64 pg, .int .i64 1]) ∧ Box W g10 30 (sc sp))) := ⟨⟨_, ⟨LL.out, BX.out⟩, B10.out⟩⟩
    have e2 := fun p : Held (fun W => (Later w W ∧ Box W w.heap.size 36 [.int .i64 18, .int .u64 (at_ : Int), .int .i64 n, .int .i64 pg, .int .i64 1]) ∧ Box W g10 30 (sc sp)) => p.h.1.2.cell 2
    have s0 := fun p : Held (fun W => (Later w W ∧ Box W w.heap.size 36 [.int .i64 18, .int .u64 (at_ : Int), .int .i64 n, .int .i64 pg, .int .i64 1]) ∧ Box W g10 30 (sc sp)) => p.h.2.cell 0
    have s1 := fun p : Held (fun W => (Later w W ∧ Box W w.heap.size 36 [.int .i64 18, .int .u64 (at_ : Int), .int .i64 n, .int .i64 pg, .int .i64 1]) ∧ Box W g10 30 (sc sp)) => p.h.2.cell 1
    have s2 := fun p : Held (fun W => (Later w W ∧ Box W w.heap.size 36 [.int .i64 18, .int .u64 (at_ : Int), .int .i64 n, .int .i64 pg, .int .i64 1]) ∧ Box W g10 30 (sc sp)) => p.h.2.cell 2
    replace LL := hide (LL.out.trans (Later.refl _).drew)
    replace BX := hide (BX.out.later (Later.refl _).drew)
    replace BS := hide (BS.out.later (Later.refl _).drew)
    replace B10 := hide (B10.out.later (Later.refl _).drew)
    replace VP := hide (VP.out.later (Later.refl _).drew)
    iterate 4 (refine wpJ_mild rfl (fun K hK => ?_); go_simp; refine hK _ ?_; clear hK K)
    refine wpJ_callL (fun a b hl h => ⟨⟨h.1.1.trans hl, h.1.2.later hl⟩, h.2.later hl⟩) rfl (by kernel_rfl) 33 (Plain.of (by kernel_rfl)) [.tmp 39, .tmp 41] _ rfl [vp, .int .i64 n] rfl (fun v W => Bs W v (cutL (pageL pg lun false) n)) ⟨⟨LL.out, BX.out⟩, B10.out⟩ (fun wx hx => rcut_c n wx (VP.out.later hx) (by have := pageL_len pg lun false; omega)) ?_
    intro v2 b2 hl2 hr2
    replace LL := hide (LL.out.trans hl2)
    replace BX := hide (BX.out.later hl2)
    replace BS := hide (BS.out.later hl2)
    (clear s0 s1 s2; replace B10 := hide (B10.out.later hl2))
    iterate 1 (refine wpJ_mild rfl (fun K hK => ?_); go_simp; refine hK _ ?_; clear hK K)
    refine wpJ_store rfl rfl 30 (.tmp 7) (.tmp 43) rfl (w.heap.size + 1) (sc sp) rfl rfl Tryz.info_sense (sc_one _) _ _ BS.out (by simp) (fun W hW => ⟨⟨(LL.out.trans hW).setCells (Nat.le_succ _) _ _, (BX.out.later hW).apart _ (by omega) _ _⟩, (B10.out.later hW).apart _ (by have := hg10.out; omega) _ _⟩) ?_
    intro wl hl wz hz
    have BZ : Hid (Box wz (w.heap.size + 1) 30 (sc sp)) := by rw [hz.out]; exact (BS.out.later hl).all _ rfl
    have LZ : Hid (Later w wz) := by rw [hz.out]; exact (LL.out.trans hl).setCells (Nat.le_succ _) _ _
    have VZ := (hr2.later hl).setSns7 (BS.out.later hl) (sc sp) 0
    rw [← hz.out] at VZ
    clear hz hl hr2 hl2 e2
    refine wpJ_nil (fun wn hn => ?_)
    replace BZ := hide (BZ.out.later hn)
    replace LZ := hide (LZ.out.trans hn)
    have VN := hide (VZ.later hn)
    clear hn VZ
    go_wp2
    refine bodyPost_ret (results_tmp_cell' rfl _ _ _ (w.heap.size + 1) 0 rfl _ _ (run_loadVar_mid _ _ _ _ (sc sp) _ BZ.out.range Tryz.underlying30 rfl Tryz.info_sense) rfl) rfl ⟨_, by rw [HR.out], LZ.out, by rw [HR.out]; exact VN.out⟩
  | true =>
    have ht : decide (lun < luns) = th := by rw [HT.out, ha]; rfl
    clear HT
    by_cases hb : bt = 1
    case neg =>
      have hbb : (bt != 1) = true := by simp [hb]
      have HR : Hid (ansR (18, at_, n, pg, bt) lun luns = (cutL (stdL th) n, (0, 0, 0))) := by rw [Hid, HA.out, if_pos hb]
      clear hb
      go_wp2_with fail
      clear x0 x1 x2 x3 x4
      generalize ((w.alloc (.cells #[.int .i64 18, .int .u64 (at_ : Int), .int .i64 n, .int .i64 pg, .int .i64 bt] 36)).alloc (.cells #[.int .i64 0, .int .i64 0, .int .i64 0] 30)) = w1 at *
      refine wp_region_held (fun W => Later w W ∧ Box W w.heap.size 36 [.int .i64 18, .int .u64 (at_ : Int), .int .i64 n, .int .i64 pg, .int .i64 bt]) (fun a b hl h => ⟨h.1.trans hl, h.2.later hl⟩) ⟨LL.out, BX.out⟩ [(0, false), (2, false), (3, false), (5, false), (1, true), (4, true), (6, false), (7, true)] (by kernel_rfl) (by kernel_rfl) (by kernel_rfl) (by kernel_rfl) ?_
      haveI : Nonempty (Held (fun W => Later w W ∧ Box W w.heap.size 36 [.int .i64 18, .int .u64 (at_ : Int), .int .i64 n, .int .i64 pg, .int .i64 bt])) := ⟨⟨_, LL.out, BX.out⟩⟩
      have e2 := fun p : Held (fun W => Later w W ∧ Box W w.heap.size 36 [.int .i64 18, .int .u64 (at_ : Int), .int .i64 n, .int .i64 pg, .int .i64 bt]) => p.h.2.cell 2
      replace LL := hide (LL.out.trans (Later.refl _).drew)
      replace BX := hide (BX.out.later (Later.refl _).drew)
      replace BS := hide (BS.out.later (Later.refl _).drew)
      iterate 4 (refine wpJ_mild rfl (fun K hK => ?_); go_simp; refine hK _ ?_; clear hK K)
      refine wpJ_callL (fun a b hl h => ⟨h.1.trans hl, h.2.later hl⟩) rfl (by kernel_rfl) 79 (Plain.of (by kernel_rfl)) [.tmp 25] _ rfl [.bool th] rfl (fun v W => Bs W v (stdL th)) ⟨LL.out, BX.out⟩ (fun wx hx => rstandard_c th wx) ?_
      intro v1 b1 hl1 hr1
      replace LL := hide (LL.out.trans hl1)
      replace BX := hide (BX.out.later hl1)
      replace BS := hide (BS.out.later hl1)
      clear hl1
      refine wpJ_callL (fun a b hl h => ⟨h.1.trans hl, h.2.later hl⟩) rfl (by kernel_rfl) 33 (Plain.of (by kernel_rfl)) [.tmp 26, .tmp 28] _ rfl [v1, .int .i64 n] rfl (fun v W => Bs W v (cutL (stdL th) n)) ⟨LL.out, BX.out⟩ (fun wx hx => rcut_c n wx (hr1.later hx) (by rw [stdL_len]; decide)) ?_
      intro v2 b2 hl2 hr2
      replace LL := hide (LL.out.trans hl2)
      replace BX := hide (BX.out.later hl2)
      replace BS := hide (BS.out.later hl2)
      clear hr1
      iterate 1 (refine wpJ_mild rfl (fun K hK => ?_); go_simp; refine hK _ ?_; clear hK K)
      refine wpJ_store rfl rfl 30 (.tmp 7) (.tmp 30) rfl (w.heap.size + 1) (sc (0, 0, 0)) rfl rfl Tryz.info_sense (sc_one _) _ _ BS.out (by simp) (fun W hW => ⟨(LL.out.trans hW).setCells (Nat.le_succ _) _ _, (BX.out.later hW).apart _ (by omega) _ _⟩) ?_
      intro wl hl wz hz
      have BZ : Hid (Box wz (w.heap.size + 1) 30 (sc (0, 0, 0))) := by rw [hz.out]; exact (BS.out.later hl).all _ rfl
      have LZ : Hid (Later w wz) := by rw [hz.out]; exact (LL.out.trans hl).setCells (Nat.le_succ _) _ _
      have VZ := (hr2.later hl).setSns7 (BS.out.later hl) (sc (0, 0, 0)) 0
      rw [← hz.out] at VZ
      clear hz hl hr2 hl2 e2
      refine wpJ_nil (fun wn hn => ?_)
      replace BZ := hide (BZ.out.later hn)
      replace LZ := hide (LZ.out.trans hn)
      have VN := hide (VZ.later hn)
      clear hn VZ
      go_wp2
      refine bodyPost_ret (results_tmp_cell' rfl _ _ _ (w.heap.size + 1) 0 rfl _ _ (run_loadVar_mid _ _ _ _ (sc (0, 0, 0)) _ BZ.out.range Tryz.underlying30 rfl Tryz.info_sense) rfl) rfl ⟨_, by rw [HR.out], LZ.out, by rw [HR.out]; exact VN.out⟩
    subst hb
    have HR : Hid (ansR (18, at_, n, pg, 1) lun luns = (cutL (pageL pg lun th) n, pageS pg)) := by rw [Hid, HA.out, if_neg (by simp)]
    go_wp2_with fail
    clear x0 x1 x2 x3 x4
    generalize ((w.alloc (.cells #[.int .i64 18, .int .u64 (at_ : Int), .int .i64 n, .int .i64 pg, .int .i64 1] 36)).alloc (.cells #[.int .i64 0, .int .i64 0, .int .i64 0] 30)) = w1 at *
    refine (rpage_c pg lun th _ hlun).mono ?_
    rintro e w2 ⟨vp, rfl, hl, hp⟩
    replace LL := hide (LL.out.trans hl)
    replace BX := hide (BX.out.later hl)
    replace BS := hide (BS.out.later hl)
    have VP := hide hp
    clear hl hp
    generalize pageS pg = sp at *
    go_wp2_with (refine wpList_newAS rfl rfl rfl rfl 10 9 rfl rfl (by simp) (by decide) (.tmp 37) (.tmp 38) (by simp) (by simp) (by simp) rfl rfl rfl _ sp rfl rfl ?_)
    intro g10 w3 hB hl hg
    have hg10 : Hid (w.heap.size + 1 < g10) := by rw [Hid, hg.out]; exact BS.out.lt
    replace LL := hide (LL.out.trans hl)
    replace BX := hide (BX.out.later hl)
    replace BS := hide (BS.out.later hl)
    replace VP := hide (VP.out.later hl)
    have B10 := hide hB
    clear hl hg hB
    go_wp2_with fail
    refine wp_region_held (fun W => (Later w W ∧ Box W w.heap.size 36 [.int .i64 18, .int .u64 (at_ : Int), .int .i64 n, .int .i64 pg, .int .i64 1]) ∧ Box W g10 30 (sc sp)) (fun a b hl h => ⟨⟨h.1.1.trans hl, h.1.2.later hl⟩, h.2.later hl⟩) ⟨⟨LL.out, BX.out⟩, B10.out⟩ [(0, false), (1, false), (2, false), (4, false), (3, true), (5, false), (6, true)] (by kernel_rfl) (by kernel_rfl) (by kernel_rfl) (by kernel_rfl) ?_
    haveI : Nonempty (Held (fun W => (Later w W ∧ Box W w.heap.size 36 [.int .i64 18, .int .u64 (at_ : Int), .int .i64 n, .int .i64 pg, .int .i64 1]) ∧ Box W g10 30 (sc sp))) := ⟨⟨_, ⟨LL.out, BX.out⟩, B10.out⟩⟩
    have e2 := fun p : Held (fun W => (Later w W ∧ Box W w.heap.size 36 [.int .i64 18, .int .u64 (at_ : Int), .int .i64 n, .int .i64 pg, .int .i64 1]) ∧ Box W g10 30 (sc sp)) => p.h.1.2.cell 2
    have s0 := fun p : Held (fun W => (Later w W ∧ Box W w.heap.size 36 [.int .i64 18, .int .u64 (at_ : Int), .int .i64 n, .int .i64 pg, .int .i64 1]) ∧ Box W g10 30 (sc sp)) => p.h.2.cell 0
    have s1 := fun p : Held (fun W => (Later w W ∧ Box W w.heap.size 36 [.int .i64 18, .int .u64 (at_ : Int), .int .i64 n, .int .i64 pg, .int .i64 1]) ∧ Box W g10 30 (sc sp)) => p.h.2.cell 1
    have s2 := fun p : Held (fun W => (Later w W ∧ Box W w.heap.size 36 [.int .i64 18, .int .u64 (at_ : Int), .int .i64 n, .int .i64 pg, .int .i64 1]) ∧ Box W g10 30 (sc sp)) => p.h.2.cell 2
    replace LL := hide (LL.out.trans (Later.refl _).drew)
    replace BX := hide (BX.out.later (Later.refl _).drew)
    replace BS := hide (BS.out.later (Later.refl _).drew)
    replace B10 := hide (B10.out.later (Later.refl _).drew)
    replace VP := hide (VP.out.later (Later.refl _).drew)
    iterate 4 (refine wpJ_mild rfl (fun K hK => ?_); go_simp; refine hK _ ?_; clear hK K)
    refine wpJ_callL (fun a b hl h => ⟨⟨h.1.1.trans hl, h.1.2.later hl⟩, h.2.later hl⟩) rfl (by kernel_rfl) 33 (Plain.of (by kernel_rfl)) [.tmp 39, .tmp 41] _ rfl [vp, .int .i64 n] rfl (fun v W => Bs W v (cutL (pageL pg lun th) n)) ⟨⟨LL.out, BX.out⟩, B10.out⟩ (fun wx hx => rcut_c n wx (VP.out.later hx) (by have := pageL_len pg lun th; omega)) ?_
    intro v2 b2 hl2 hr2
    replace LL := hide (LL.out.trans hl2)
    replace BX := hide (BX.out.later hl2)
    replace BS := hide (BS.out.later hl2)
    (clear s0 s1 s2; replace B10 := hide (B10.out.later hl2))
    iterate 1 (refine wpJ_mild rfl (fun K hK => ?_); go_simp; refine hK _ ?_; clear hK K)
    refine wpJ_store rfl rfl 30 (.tmp 7) (.tmp 43) rfl (w.heap.size + 1) (sc sp) rfl rfl Tryz.info_sense (sc_one _) _ _ BS.out (by simp) (fun W hW => ⟨⟨(LL.out.trans hW).setCells (Nat.le_succ _) _ _, (BX.out.later hW).apart _ (by omega) _ _⟩, (B10.out.later hW).apart _ (by have := hg10.out; omega) _ _⟩) ?_
    intro wl hl wz hz
    have BZ : Hid (Box wz (w.heap.size + 1) 30 (sc sp)) := by rw [hz.out]; exact (BS.out.later hl).all _ rfl
    have LZ : Hid (Later w wz) := by rw [hz.out]; exact (LL.out.trans hl).setCells (Nat.le_succ _) _ _
    have VZ := (hr2.later hl).setSns7 (BS.out.later hl) (sc sp) 0
    rw [← hz.out] at VZ
    clear hz hl hr2 hl2 e2
    refine wpJ_nil (fun wn hn => ?_)
    replace BZ := hide (BZ.out.later hn)
    replace LZ := hide (LZ.out.trans hn)
    have VN := hide (VZ.later hn)
    clear hn VZ
    go_wp2
    refine bodyPost_ret (results_tmp_cell' rfl _ _ _ (w.heap.size + 1) 0 rfl _ _ (run_loadVar_mid _ _ _ _ (sc sp) _ BZ.out.range Tryz.underlying30 rfl Tryz.info_sense) rfl) rfl ⟨_, by rw [HR.out], LZ.out, by rw [HR.out]; exact VN.out⟩
end Go.Proofs.YtfakboehmcimpaaGreat

namespace Go.Proofs.YtfakboehmcimpaaGreat
open Go.ChangeShapes Go.WideShapes Go.ChangeAt Go.RowKit
set_option linter.unusedVariables false
set_option maxRecDepth 4000
set_option linter.unusedSimpArgs false
/-! 'append(a, x...)', a our own, in regions that draw their order. -/
theorem src_bs {w : World} {v : Value} {m : List UInt8} (h : Bs w v m) : Src Tryz.prog 1 40 v m.length (bv m) w := by
  obtain ⟨h1, ad, cap, rfl, h2, h3⟩ := h
  rcases h3 with rfl | ⟨b, off, rfl, h3⟩
  · cases ad with
    | none => exact Src.ofNil w Tryz.underlying40 cap
    | some a => exact Src.ofSlice w Tryz.underlying40 a 0 cap [] rfl (fun j u hu => by simp at hu) (fun u hu => by simp at hu)
  · refine Src.ofSlice w Tryz.underlying40 ⟨b, off, none⟩ m.length cap (bv m) (by rw [bv_length, Nat.mul_one]) ?_ (bv_one m)
    intro j u hu
    have hj : j < m.length := by rw [← bv_length]; exact (List.getElem?_eq_some_iff.1 hu).1
    rw [show (⟨b, off, none⟩ : Addr).add j = ⟨b, off + j, none⟩ from by unfold Addr.add; split <;> simp_all, h3 j hj, ← hu]
    simp [bv, hj]
set_option maxHeartbeats 1000000 in
theorem run_append_src8 {w : World} {B g n cap : Nat} {l : List UInt8} (ty tx : TypeId) (x : Value) (m : List UInt8) (hsrc0 : Src Tryz.prog 1 tx x m.length (bv m) w) (hown : w.ownsRow B 5 1 (.slice (some ⟨g, 0, none⟩) n cap) n (bv l)) (hn : n + m.length ≤ 1000000) (hbase : B ≤ w.heap.size) :
    ∃ v' w', (Builtin.append_ #[40, tx] ty #[.slice (some ⟨g, 0, none⟩) n cap, x]).run Tryz.prog w = .ok v' w' ∧ w'.ownsRow B 5 1 v' (n + m.length) (bv (l ++ m)) ∧ w.grownBy w' (some g) ∧ ∃ g' cap', v' = .slice (some ⟨g', 0, none⟩) (n + m.length) cap' := by
  obtain ⟨i0, hi, hz0, hz1, hz2⟩ := info_parts Tryz.info_u8
  have hsrc : Src Tryz.prog i0.size tx x m.length (bv m) w := by rw [hz1]; exact hsrc0
  obtain ⟨hlen, h | ⟨g', cap', cur, e, hbg, hg, hnc, hcm, hcs, htake⟩⟩ := hown
  · obtain ⟨h, _⟩ := h; cases h
  simp at e
  obtain ⟨rfl, rfl⟩ := e
  rw [Nat.mul_one] at hlen hcs htake
  have hL : (bv (l ++ m)).length = n + m.length := by rw [bv_append, List.length_append, hlen, bv_length]
  have hB : Box w g 5 cur.toList := by unfold Box; rw [hg]
  by_cases hroom : n + m.length ≤ cap
  · have hrun := run_append_room_src (P := Tryz.prog) w 40 tx ty 5 i0 Tryz.underlying40 hi g 0 n cap x m.length (bv m) hsrc hroom (fun j hj => by rw [hz1, hB.cell]; rw [bv_length] at hj; simp; omega) (fun j hj => hB.frozen _)
    rw [hz1, Nat.mul_one, Nat.zero_add] at hrun
    have hB2 := hB.setCells (bv m) n (by rw [bv_length]; simp; omega)
    refine ⟨.slice (some ⟨g, 0, none⟩) (n + m.length) cap, w.setCells g n (bv m), hrun, ?_, ?_, _, _, rfl⟩
    · refine ⟨by rw [hL, Nat.mul_one], .inr ⟨g, cap, _, rfl, hbg, hB2, hroom, hcm, ?_, ?_⟩⟩
      · simp [bv_length]; omega
      · rw [Nat.mul_one, htake, ← bv_append, ← hL]
        exact List.take_left
    · have hlt := hB.lt
      exact ⟨(below_setCells (Below.refl g w) (Nat.le_refl _) _ _).os, (below_setCells (Below.refl g w) (Nat.le_refl _) _ _).tape, (below_setCells (Below.refl g w) (Nat.le_refl _) _ _).output, (below_setCells (Below.refl g w) (Nat.le_refl _) _ _).size, fun k hk hne => heap_setCells_other w g k (fun e => hne (by rw [e])) _ _⟩
  · have hfit : Builtin.nextslicecap (n + m.length) cap * i0.bytes ≤ 281474976710656 := by
      rw [hz2]
      have := growslice_fits (need := n + m.length) (old := cap) (bytes := 1) (by omega) (by omega)
      omega
    have holds : (Builtin.firstCells i0.size n (.slice (some ⟨g, 0, none⟩) n cap)).run Tryz.prog w.drew = .ok (bv l).toArray w.drew := by
      rw [hz1]
      refine run_firstCells_some w.drew 1 n ⟨g, 0, none⟩ n cap (bv l) (by rw [hlen]; omega) ?_
      intro j u hu
      have hj : j < n := by rw [← hlen]; exact (List.getElem?_eq_some_iff.1 hu).1
      have hB : Box w.drew g 5 cur.toList := by unfold Box; exact hg
      rw [show (⟨g, 0, none⟩ : Addr).add j = ⟨g, j, none⟩ from by unfold Addr.add; split <;> simp_all, hB.cell j, ← hu, ← htake, List.getElem?_take_of_lt hj]
    have hrun := run_append_grow_src (P := Tryz.prog) w 40 tx ty 5 i0 (.int .u8 0) Tryz.underlying40 hi hz0 (some ⟨g, 0, none⟩) n cap (bv l) holds x m.length (bv m) hsrc (by omega) (by omega) hfit
    have hge := grownCap_ge w (n + m.length) cap 5
    have hcm2 : grownCap w (n + m.length) cap 5 ≤ maxLen := grownCap_le_maxLen w (n + m.length) cap 5 (by unfold maxLen; omega)
    refine ⟨_, _, hrun, ?_, ?_, _, _, rfl⟩
    · refine ⟨by rw [hL, Nat.mul_one], .inr ⟨w.heap.size, _, _, rfl, hbase, heap_alloc_new w.drew _, hge, hcm2, ?_, ?_⟩⟩
      · simp only [Array.size_append, List.size_toArray, size_zeroCells, List.length_append, hlen, bv_length]
        simp [Value.cells]
        omega
      · simp only [Array.toList_append, List.toList_toArray]
        rw [Nat.mul_one, ← bv_append, ← hL]
        exact List.take_left
    · exact ⟨rfl, rfl, rfl, by simp, fun k hk _ => heap_alloc_old w.drew _ hk⟩
/-- an operation where it alone may come up -/
theorem wpJ_loud {P : Program} {ops : Array Oper} {I : World → Prop} {Q : Act → World → Prop} {i : Nat} {o : Oper} {σ : List (Nat × Bool)} {a : Act} {b : World} (ho : ops[i]? = some o)
    (h : ∀ K : Act → World → Prop, (∀ a' w', wpJ P ops I Q σ a' w' → K a' w') → ∀ w, Later b w → if Region.wanted o (yielded ops a.tmps) then Oper.heldUpon P I o a w K ((execOp a.eval o).run P w) else K (a.put o.dst undef) w) : wpJ P ops I Q ((i, true) :: σ) a b := by
  intro w hw
  unfold jOp
  simp only [ho]
  exact h _ (fun _ _ h => h) w hw
attribute [go_sem] Oper.heldUpon
theorem wpJ_append8 {ops : Array Oper} {I : World → Prop} {Q : Act → World → Prop} {i : Nat} {o : Oper} {σ : List (Nat × Bool)} {a : Act} {b : World} (ho : ops[i]? = some o) (hw : Region.wanted o (yielded ops a.tmps) = true) (s x : Operand) (tx : TypeId) (hop : o.op = .call { callee := .builtin .append, args := #[s, x], argTypes := #[40, tx] })
    (B g n cap : Nat) (l m : List UInt8) (hs : a.eval s = .slice (some ⟨g, 0, none⟩) n cap) (u : Value) (hx : a.eval x = u) (hown : b.ownsRow B 5 1 (.slice (some ⟨g, 0, none⟩) n cap) n (bv l)) (hsrc : ∀ w, Later b w → Src Tryz.prog 1 tx u m.length (bv m) w) (hn : n + m.length ≤ 1000000) (hbase : B ≤ b.heap.size)
    (hI : ∀ w', Below B b w' → I w') (h : ∀ g' cap' w', Below B b w' → w'.ownsRow B 5 1 (.slice (some ⟨g', 0, none⟩) (n + m.length) cap') (n + m.length) (bv (l ++ m)) → wpJ Tryz.prog ops I Q σ (a.put o.dst (.slice (some ⟨g', 0, none⟩) (n + m.length) cap')) w') : wpJ Tryz.prog ops I Q ((i, true) :: σ) a b := by
  refine wpJ_loud ho (fun K hK w hl => ?_)
  rw [if_pos hw]
  have hown' := owns_later hown hl
  obtain ⟨v', w', hrun, h1, h2, g', cap', rfl⟩ := run_append_src8 o.type tx u m (hsrc w hl) hown' hn (Nat.le_trans hbase hl.size)
  have hbg : B ≤ g := (hown'.lt g rfl).1
  have hB : Below B b w' := ((Below.refl B b).trans (hl.mono hbase)).grown h2 (Nat.le_trans hbase hl.size) fun k hk => by cases hk; exact hbg
  unfold execOp
  simp only [hop, resolve, invoke, builtin, Sem.run_bind, Sem.run_pure, Result.andThen_ok, List.map_toArray, List.map_cons, List.map_nil, hs, hx, hrun, Oper.heldUpon]
  exact ⟨hI _ hB, hK _ _ (h g' cap' w' hB h1)⟩
end Go.Proofs.YtfakboehmcimpaaGreat
