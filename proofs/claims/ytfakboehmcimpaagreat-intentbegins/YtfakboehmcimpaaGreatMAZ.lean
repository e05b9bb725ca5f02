import Derived.Test.YtfakboehmcimpaaGreatMAY
namespace Go.Proofs.YtfakboehmcimpaaGreat
open Go.ChangeShapes Go.WideShapes Go.ChangeAt Go.RowKit
set_option linter.unusedVariables false
set_option maxRecDepth 4000
set_option linter.unusedSimpArgs false
/-! The landed slot: Read. -/
theorem checkS_ok (n : Nat) (D : List Drt) (p r : Bool) (at_ : Nat) (m : Int) (wr : Bool) : OkS (checkS n D p r at_ m wr) := by
  unfold checkS
  split
  · exact okS_of _ (by decide)
  · split
    · exact okS_of _ (by decide)
    · split
      · exact okS_of _ (by decide)
      · exact okS_of _ (by decide)
set_option maxRecDepth 20000 in
set_option maxHeartbeats 2000000 in
theorem sread_c : IReadT := by
  intro v n F D p r l at_ m w h ha hm1 hm2 hn hD
  have HDl := hide hD
  clear hD
  have HS := hide h
  obtain ⟨ab, cb, aD, k, cD, rfl, hm⟩ := h
  have HM := hide hm
  clear hm
  have BX : Hid (Box ((w.alloc (.cells #[.slice ab n cb, .slice aD k cD, .bool p, .bool r, .bool l] 27)).alloc (.cells #[.int .i64 0, .int .i64 0, .int .i64 0] 30)) w.heap.size 27 (tc (.slice ab n cb) (.slice aD k cD) p r l)) := (Box.new w 27 #[.slice ab n cb, .slice aD k cD, .bool p, .bool r, .bool l]).alloc _
  have BS : Hid (Box ((w.alloc (.cells #[.slice ab n cb, .slice aD k cD, .bool p, .bool r, .bool l] 27)).alloc (.cells #[.int .i64 0, .int .i64 0, .int .i64 0] 30)) (w.heap.size + 1) 30 (sc (0, 0, 0))) := Box.new' _ _ _ _ rfl _ (by simp)
  have L := hide (((Later.refl w).alloc (.cells #[.slice ab n cb, .slice aD k cD, .bool p, .bool r, .bool l] 27)).alloc (.cells #[.int .i64 0, .int .i64 0, .int .i64 0] 30))
  go_enter Tryz.func54, Tryz.ntmps54
  go_wp2_with fail
  generalize ((w.alloc (.cells #[.slice ab n cb, .slice aD k cD, .bool p, .bool r, .bool l] 27)).alloc (.cells #[.int .i64 0, .int .i64 0, .int .i64 0] 30)) = w1 at *
  refine (scheck_c _ n F D p r l at_ m false w1 (HS.out.later L.out) ha hm1 hm2 hn HDl.out).mono ?_
  rintro e w2 ⟨rfl, hl⟩
  replace BX := hide (BX.out.later hl)
  replace BS := hide (BS.out.later hl)
  replace L := hide (L.out.later hl)
  clear hl
  have HZ := hide (fun h => checkS_zero (n := n) (D := D) (p := p) (r := r) (at_ := at_) (m := m) (wr := false) h)
  have HOk := hide (checkS_ok n D p r at_ m false)
  generalize hS : checkS n D p r at_ m false = S at *
  have HSv := hide hS
  clear hS
  go_wp2_with (refine wpList_newS rfl rfl rfl 8 rfl (by simp) (.tmp 14) (by simp) rfl S rfl ?_)
  intro g8 w3 hB hl hg
  replace BX := hide (BX.out.later hl)
  replace BS := hide (BS.out.later hl)
  replace L := hide (L.out.later hl)
  have B8 := hide hB
  clear hB hl hg
  have e0 := B8.out.cell 0
  have e1 := B8.out.cell 1
  have e2 := B8.out.cell 2
  go_wp2_with fail
  refine (sgood_c S w3 HOk.out).mono ?_
  rintro e w4 ⟨rfl, hl⟩
  clear e0 e1 e2
  replace BX := hide (BX.out.later hl)
  replace BS := hide (BS.out.later hl)
  replace L := hide (L.out.later hl)
  replace B8 := hide (B8.out.later hl)
  clear hl
  cases hz : (S == ((0, 0, 0) : Sns)) with
  | false =>
    have hRd : Hid (rdL n F D S at_ m = []) := by simp only [Hid, rdL, hz]; rfl
    go_wp2_with fail
    refine wp_region_tree [0, 1] [] [2] (by kernel_rfl) (by kernel_rfl) (by kernel_rfl) (by kernel_rfl) ?_
    refine wpT_loadG rfl (by kernel_rfl) 30 (.tmp 8) rfl g8 0 rfl (sc S) _ ((World.rangeAt_drew _ _ _ _).2 B8.out.range) Tryz.underlying30 rfl Tryz.info_sense ?_
    refine wpT_mild rfl (fun K hK => ?_)
    go_simp
    refine hK _ ?_
    clear hK K
    refine wpT_done (fun wx hwx => ?_)
    have hlx := (Later.refl w4).drew.trans hwx
    replace BS := hide (BS.out.later hlx)
    replace L := hide (L.out.later hlx)
    clear hwx hlx BX B8
    refine wpL_store rfl (by kernel_rfl) 30 (.tmp 7) (.tmp 18) rfl (w.heap.size + 1) 0 (sc S) rfl rfl (BS.out.there 0 3 (by simp)) Tryz.info_sense (sc_one _) (wpL_nil ?_)
    have BZ := hide (BS.out.all (sc S) rfl)
    have LZ := hide (L.out.setCells (g := w.heap.size + 1) (by omega) (sc S) 0)
    clear BS L
    generalize (wx.setCells (w.heap.size + 1) 0 (sc S)) = wz at *
    go_wp2
    refine bodyPost_ret (results_tmp_cell' rfl _ _ _ (w.heap.size + 1) 0 rfl (sval S) (.slice none 0 0) (shut3 BZ.out) rfl) rfl ⟨.slice none 0 0, ?_, LZ.out, ?_⟩
    · rw [HSv.out]
    · rw [HSv.out, hRd.out]; exact Bs.nil _
  | true =>
    obtain rfl : S = (0, 0, 0) := eq_of_beq hz
    have hq := HZ.out rfl
    have hRd : Hid (rdL n F D (0, 0, 0) at_ m = readL (allN n D) (allF n F D) at_ m) := by
      have h1 := allN_small n D
      simp only [Hid, rdL, readL, hz, if_true, if_neg (show ¬ 64 < allN n D by omega), hq.2.2]
    clear hq HZ hz
    have d0 := BX.out.cell 0
    have d1 := BX.out.cell 1
    go_wp2_with fail
    refine (call3_c _ n F D w4 (HM.out.later L.out)).mono ?_
    rintro e w5 ⟨v4, rfl, hl, h4⟩
    replace BX := hide (BX.out.later hl)
    replace BS := hide (BS.out.later hl)
    replace L := hide (L.out.later hl)
    replace B8 := hide (B8.out.later hl)
    have R4 := hide h4
    clear hl h4 d0 d1
    obtain ⟨a4, c4, rfl⟩ := R4.out.shape
    go_wp2_with fail
    refine (bread_o at_ m w5 R4.out ha hm1 hm2).mono ?_
    rintro e w6 ⟨v5, rfl, hl, h5⟩
    rw [← hRd.out] at h5
    have O5 : Hid (w6.ownsRow w.heap.size 5 1 v5 (rdL n F D (0, 0, 0) at_ m).length (bv (rdL n F D (0, 0, 0) at_ m))) := owns_rebase h5 L.out.size
    replace BS := hide (BS.out.later hl)
    replace L := hide (L.out.later hl)
    clear hl h5 R4 BX B8
    go_wp2_with (refine wpList_storeT rfl 30 (.tmp 7) (.tmp 29) rfl (w.heap.size + 1) 0 rfl (sc (0, 0, 0)) rfl Tryz.info_sense (sc_one _) _ _ BS.out (by simp) ?_)
    intro wz hwz
    have BZ := hide (BS.out.all (sc (0, 0, 0)) rfl)
    have LZ := hide (L.out.setCells (g := w.heap.size + 1) (by omega) (sc (0, 0, 0)) 0)
    have OZ : Hid ((w6.setCells (w.heap.size + 1) 0 (sc (0, 0, 0))).ownsRow w.heap.size 5 1 v5 (rdL n F D (0, 0, 0) at_ m).length (bv (rdL n F D (0, 0, 0) at_ m))) := owns_kept O5.out fun g hg => heap_setCells_other w6 (w.heap.size + 1) g (fun e => box_ne_own BS.out O5.out (by decide) g hg e.symm) _ _
    rw [← hwz.out] at BZ LZ OZ
    clear BS L O5 hwz
    go_wp2
    refine bodyPost_ret (results_tmp_cell' rfl _ _ _ (w.heap.size + 1) 0 rfl (sval (0, 0, 0)) v5 (shut3 BZ.out) rfl) rfl ⟨v5, ?_, LZ.out, ?_⟩
    · rw [HSv.out]
    · rw [HSv.out]; exact (Bs.of_owns OZ.out).1
end Go.Proofs.YtfakboehmcimpaaGreat

namespace Go.Proofs.YtfakboehmcimpaaGreat
open Go.ChangeShapes Go.WideShapes Go.ChangeAt Go.RowKit
set_option linter.unusedVariables false
set_option maxRecDepth 4000
set_option linter.unusedSimpArgs false
/-! The landed slot: Keep, Unload. -/
set_option maxRecDepth 20000 in
set_option maxHeartbeats 2000000 in
theorem skeep_c : IKeepT := by
  intro v n F D p r l on w h hn hD
  have HDl := hide hD
  clear hD
  have HS := hide h
  obtain ⟨ab, cb, aD, k, cD, rfl, hm⟩ := h
  have HM := hide hm
  clear hm
  have BX : Hid (Box (((w.alloc (.cells #[.slice ab n cb, .slice aD k cD, .bool p, .bool r, .bool l] 27)).alloc (.cells #[.slice none 0 0, .slice none 0 0, .bool false, .bool false, .bool false] 27)).alloc (.cells #[.int .i64 0, .int .i64 0, .int .i64 0] 30)) w.heap.size 27 (tc (.slice ab n cb) (.slice aD k cD) p r l)) := ((Box.new w 27 #[.slice ab n cb, .slice aD k cD, .bool p, .bool r, .bool l]).alloc _).alloc _
  have BR : Hid (Box (((w.alloc (.cells #[.slice ab n cb, .slice aD k cD, .bool p, .bool r, .bool l] 27)).alloc (.cells #[.slice none 0 0, .slice none 0 0, .bool false, .bool false, .bool false] 27)).alloc (.cells #[.int .i64 0, .int .i64 0, .int .i64 0] 30)) (w.heap.size + 1) 27 (tc (.slice none 0 0) (.slice none 0 0) false false false)) := (Box.new' _ _ _ _ rfl _ (by simp)).alloc _
  have BS : Hid (Box (((w.alloc (.cells #[.slice ab n cb, .slice aD k cD, .bool p, .bool r, .bool l] 27)).alloc (.cells #[.slice none 0 0, .slice none 0 0, .bool false, .bool false, .bool false] 27)).alloc (.cells #[.int .i64 0, .int .i64 0, .int .i64 0] 30)) (w.heap.size + 1 + 1) 30 (sc (0, 0, 0))) := Box.new' _ _ _ _ rfl _ (by simp)
  have L := hide ((((Later.refl w).alloc (.cells #[.slice ab n cb, .slice aD k cD, .bool p, .bool r, .bool l] 27)).alloc (.cells #[.slice none 0 0, .slice none 0 0, .bool false, .bool false, .bool false] 27)).alloc (.cells #[.int .i64 0, .int .i64 0, .int .i64 0] 30))
  go_enter Tryz.func73, Tryz.ntmps73
  go_wp2_with fail
  generalize (((w.alloc (.cells #[.slice ab n cb, .slice aD k cD, .bool p, .bool r, .bool l] 27)).alloc (.cells #[.slice none 0 0, .slice none 0 0, .bool false, .bool false, .bool false] 27)).alloc (.cells #[.int .i64 0, .int .i64 0, .int .i64 0] 30)) = w1 at *
  refine (sown_c w1 (HS.out.later L.out) hn HDl.out).mono ?_
  rintro e w2 ⟨v2, rfl, hl, h2, hf⟩
  have hO : Hid (OffT (w.heap.size + 1 + 1) v2) := hf _ BS.out.lt
  replace BX := hide (BX.out.later hl)
  replace BR := hide (BR.out.later hl)
  replace BS := hide (BS.out.later hl)
  replace L := hide (L.out.later hl)
  obtain ⟨a3, c3, a6, k6, c6, rfl, hm2⟩ := h2
  have M := hide hm2
  have hOff : Hid (OffS (w.heap.size + 1 + 1) (.slice a3 n c3) ∧ OffS (w.heap.size + 1 + 1) (.slice a6 k6 c6)) := by
    obtain ⟨a, b, p', r', l', e, h1, h2⟩ := hO.out
    simp at e
    obtain ⟨rfl, rfl, _⟩ := e
    exact ⟨h1, h2⟩
  clear hl hm2 hf hO
  go_wp2_with (refine wpList_newT rfl rfl rfl 6 rfl (by simp) (.tmp 9) (by simp) rfl a3 a6 n c3 k6 c6 p r l rfl ?_)
  intro gV w3 hB hl hg
  have hne : Hid (w.heap.size + 1 ≠ gV ∧ w.heap.size + 1 + 1 ≠ gV ∧ w.heap.size ≤ gV) := by
    have h1 := BR.out.lt
    have h2 := BS.out.lt
    have h3 := hg.out.1
    exact ⟨by omega, by omega, by omega⟩
  replace BX := hide (BX.out.later hl)
  replace BR := hide (BR.out.later hl)
  replace BS := hide (BS.out.later hl)
  replace L := hide (L.out.later hl)
  replace M := hide (M.out.later hl)
  have BV := hide hB
  clear hl hB hg
  have d0 := BX.out.cell 0
  have d1 := BX.out.cell 1
  have d2 := BX.out.cell 2
  have d3 := BX.out.cell 3
  have d4 := BX.out.cell 4
  go_wp2_with fail
  refine (sready_c _ n F D p r l w3 (HS.out.later L.out)).mono ?_
  rintro e w4 ⟨rfl, hl⟩
  clear d0 d1 d2 d3 d4
  replace BX := hide (BX.out.later hl)
  replace BR := hide (BR.out.later hl)
  replace BS := hide (BS.out.later hl)
  replace L := hide (L.out.later hl)
  replace M := hide (M.out.later hl)
  replace BV := hide (BV.out.later hl)
  clear hl
  cases p with
  | true =>
    go_wp2_with (refine wpList_newS rfl rfl rfl 7 rfl (by simp) (.tmp 11) (by simp) rfl (0, 0, 0) rfl ?_)
    intro gW w5 hB hl hg
    have hgW : gW ≠ w.heap.size + 1 + 1 := by have h1 := BS.out.lt; have h2 := hg.out.1; omega
    replace BX := hide (BX.out.later hl)
    replace BR := hide (BR.out.later hl)
    replace BS := hide (BS.out.later hl)
    replace L := hide (L.out.later hl)
    replace M := hide (M.out.later hl)
    replace BV := hide (BV.out.later hl)
    have BW := hide hB
    clear hB hl hg
    have e0 := BW.out.cell 0
    have e1 := BW.out.cell 1
    have e2 := BW.out.cell 2
    go_wp2_with fail
    refine (sgood_c (0, 0, 0) w5 (okS_of _ (by decide))).mono ?_
    rintro e w6 ⟨rfl, hl⟩
    clear e0 e1 e2
    replace BX := hide (BX.out.later hl)
    replace BR := hide (BR.out.later hl)
    replace BS := hide (BS.out.later hl)
    replace L := hide (L.out.later hl)
    replace M := hide (M.out.later hl)
    replace BV := hide (BV.out.later hl)
    replace BW := hide (BW.out.later hl)
    clear hl
    rw [show (((0, 0, 0) : Sns) == (0, 0, 0)) = true from rfl]
    go_wp2_with (refine wpList_storeC rfl 4 (.tmp 15) (.tmp 14) rfl gV 4 rfl on rfl Tryz.info_bool _ _ BV.out (by simp) ?_)
    intro w7 hw7
    have BV5 := hide ((box_bool BV.out).2.2 on)
    have BR5 := hide (BR.out.kept (heap_setCells_other w6 gV (w.heap.size + 1) hne.out.1 [.bool on] 4))
    have BS5 := hide (BS.out.kept (heap_setCells_other w6 gV (w.heap.size + 1 + 1) hne.out.2.1 [.bool on] 4))
    have BW5 := hide (BW.out.kept (heap_setCells_other w6 gV gW (box_ne BW.out BV.out (by decide)) [.bool on] 4))
    have L5 := hide (L.out.setCells (g := gV) hne.out.2.2 [.bool on] 4)
    have M5 := hide (M.out.setBox BV.out (tc_noints _ _ _ _ _ _ _ _ _) [.bool on] 4)
    rw [← hw7.out] at BV5 BR5 BS5 BW5 L5 M5
    clear BV BR BS BW L M hw7 BX
    have BV := BV5
    have BR := BR5
    have BS := BS5
    have BW := BW5
    have L := L5
    have M := M5
    clear BV5 BR5 BS5 BW5 L5 M5
    have hDr := hide (Later.refl w7).drew
    go_wp2_with fail
    refine wp_region_bag [0] [1, 2, 3] [2, 3] (by kernel_rfl) (by kernel_rfl) (by kernel_rfl) (by kernel_rfl) ?_
    have hc := fun r => (hDr.out.trans (later_rg _ r))
    have q0 := fun r => (BV.out.later (hc r)).cell 0
    have q1 := fun r => (BV.out.later (hc r)).cell 1
    have q2 := fun r => (BV.out.later (hc r)).cell 2
    have q3 := fun r => (BV.out.later (hc r)).cell 3
    have q4 := fun r => (BV.out.later (hc r)).cell 4
    refine wpM_mild rfl (fun K hK => ?_)
    go_simp
    refine hK _ ?_
    clear hK K q0 q1 q2 q3 q4 hc
    have hwd := hDr.out
    refine wpM_nil (bag_of (fun i => match i with | 3 => [1, 2] | _ => [])
      (fun W => Later w W ∧ Box W gW 30 (sc (0, 0, 0)) ∧ Med W (.agg #[(.slice a3 n c3), (.slice a6 k6 c6)]) n F D ∧ (∃ cr, NoInts cr ∧ cr.length = 5 ∧ Box W (w.heap.size + 1) 27 cr) ∧ (∃ cz : List Value, cz.length = 3 ∧ Box W (w.heap.size + 1 + 1) 30 cz))
      (fun i vals W => match i with
        | 1 => vals 1 = sval (0, 0, 0)
        | 2 => Box W (w.heap.size + 1) 27 (tc (.slice a3 n c3) (.slice a6 k6 c6) true r on)
        | 3 => Box W (w.heap.size + 1 + 1) 30 (sc (0, 0, 0))
        | _ => True) (by kernel_rfl) (by kernel_rfl) ?c1 ?c2 ?c3 ?c4 ?c5 ?c6 ?c7 ?c8)
    case c1 => exact ⟨L.out.trans hwd, BW.out.later hwd, M.out.later hwd, ⟨_, tc_noints _ _ _ _ _ _ _ _ _, rfl, BR.out.later hwd⟩, _, rfl, BS.out.later hwd⟩
    case c2 =>
      rintro W W' hl ⟨ii1, ii2, ii3, ⟨cr, jj1, jj2, jj3⟩, cz, jj4, jj5⟩
      exact ⟨ii1.trans hl, ii2.later hl, ii3.later hl, ⟨cr, jj1, jj2, jj3.later hl⟩, cz, jj4, jj5.later hl⟩
    case c3 =>
      intro i hi vals W W' hl h
      simp only [List.mem_cons, List.not_mem_nil, or_false] at hi
      rcases hi with rfl | rfl | rfl
      · exact h
      · exact Box.later h hl
      · exact Box.later h hl
    case c4 =>
      intro i hi k hk hne hds vals v W h
      simp only [List.mem_cons, List.not_mem_nil, or_false] at hi hk
      rcases hi with rfl | rfl | rfl <;> rcases hk with rfl | rfl | rfl <;> first | (exact absurd rfl hne) | (simp at hds; done) | (simpa [upd] using h)
    case c5 =>
      rintro i hi hni vals W ⟨ii1, ii2, ii3, ii4, ii5⟩ hlb hdep
      simp only [List.mem_cons, List.not_mem_nil, or_false] at hi
      rcases hi with rfl | rfl | rfl
      · have y0 := ii2.cell 0
        have y1 := ii2.cell 1
        have y2 := ii2.cell 2
        refine lVal_step rfl (fun K hK => ?_)
        simp only [putAll, List.foldl]
        go_simp
        exact ⟨Later.refl _, hK _ _ (by simp [upd])⟩
      · exact absurd (by simp) hni
      · exact absurd (by simp) hni
    case c6 =>
      rintro i hi hni vals W ⟨ii1, ii2, ii3, ⟨cr, jj1, jj2, jj3⟩, cz, jj4, jj5⟩ hlb hdep
      simp only [List.mem_cons, List.not_mem_nil, or_false] at hni
      rcases hni with rfl | rfl
      · refine sVal_store rfl rfl 27 (.tmp 4) (.tmp 16) rfl (w.heap.size + 1) (tc (.slice a3 n c3) (.slice a6 k6 c6) true r on) rfl rfl (jj3.there 0 5 (by omega)) Tryz.info_slot (tc_one _ _ _ _ _ _ _ _ _) (fun u => ⟨⟨ii1.setCells (by omega) _ 0, ii2.kept (heap_setCells_other W _ _ (box_ne ii2 jj3 (by decide)) _ _), ii3.setBox jj3 jj1 _ 0, ⟨_, tc_noints _ _ _ _ _ _ _ _ _, rfl, jj3.all _ (by simp [jj2])⟩, cz, jj4, jj5.kept (heap_setCells_other W _ _ (by omega) _ _)⟩, ?_, fun k hk => by cases hk⟩)
        exact jj3.all _ (by simp [jj2])
      · have h1 : vals 1 = sval (0, 0, 0) := hdep 1 (by simp)
        have h2 : Box W (w.heap.size + 1) 27 (tc (.slice a3 n c3) (.slice a6 k6 c6) true r on) := hdep 2 (by simp)
        refine sVal_store rfl rfl 30 (.tmp 5) (.tmp 17) rfl (w.heap.size + 1 + 1) (sc (0, 0, 0)) rfl ?_ (jj5.there 0 3 (by omega)) Tryz.info_sense (sc_one _) (fun u => ⟨⟨ii1.setCells (by omega) _ 0, ii2.kept (heap_setCells_other W _ _ hgW _ _), ii3.setOff hOff.out.1 hOff.out.2 _ 0, ⟨_, tc_noints _ _ _ _ _ _ _ _ _, rfl, h2.kept (heap_setCells_other W _ _ (by omega) _ _)⟩, _, rfl, jj5.all (sc (0, 0, 0)) (by simp [jj4])⟩, ?_, ?_⟩)
        · exact h1
        · exact jj5.all (sc (0, 0, 0)) (by simp [jj4])
        · intro k hk
          simp only [List.mem_cons, List.not_mem_nil, or_false] at hk
          rcases hk with rfl | rfl
          · exact h1
          · exact h2.kept (heap_setCells_other W _ _ (by omega) _ _)
    case c7 =>
      intro i hi hst k hk hne hds hds' vals W W' h
      simp only [List.mem_cons, List.not_mem_nil, or_false] at hst hk
      rcases hst with rfl | rfl <;> rcases hk with rfl | rfl | rfl <;> first | (exact absurd rfl hne) | (exact h) | (simp at hds; done) | (simp at hds'; done)
    case c8 =>
      rintro vals wz ⟨ii1, ii2, ii3, ii4, ii5⟩ hall
      have h1 : vals 1 = sval (0, 0, 0) := hall 1 (by simp)
      have T2 : Hid (Box wz (w.heap.size + 1) 27 (tc (.slice a3 n c3) (.slice a6 k6 c6) true r on)) := hall 2 (by simp)
      have T3 : Hid (Box wz (w.heap.size + 1 + 1) 30 (sc (0, 0, 0))) := hall 3 (by simp)
      have TL := hide ii1
      have TM := hide ii3
      clear ii1 ii2 ii3 ii4 ii5 hall BV BR BS BW L M hOff hDr hwd
      simp only [putAll, List.foldl, dstOf, h1]
      go_wp2
      refine bodyPost_ret (results_cell_cell' rfl _ _ _ (w.heap.size + 1) 0 (w.heap.size + 1 + 1) 0 rfl rfl (.agg #[(.slice a3 n c3), (.slice a6 k6 c6), .bool true, .bool r, .bool on]) (sval (0, 0, 0)) (shut5 T2.out rfl) (shut3 T3.out)) rfl ⟨.agg #[(.slice a3 n c3), (.slice a6 k6 c6), .bool true, .bool r, .bool on], ?_, TL.out, ?_⟩
      · rfl
      · exact Slt.mk' _ _ _ TM.out
  | false =>
    go_wp2_with (refine wpList_newS rfl rfl rfl 7 rfl (by simp) (.tmp 11) (by simp) rfl (2, 58, 0) rfl ?_)
    intro gW w5 hB hl hg
    have hgW : gW ≠ w.heap.size + 1 + 1 := by have h1 := BS.out.lt; have h2 := hg.out.1; omega
    replace BX := hide (BX.out.later hl)
    replace BR := hide (BR.out.later hl)
    replace BS := hide (BS.out.later hl)
    replace L := hide (L.out.later hl)
    replace M := hide (M.out.later hl)
    replace BV := hide (BV.out.later hl)
    have BW := hide hB
    clear hB hl hg
    have e0 := BW.out.cell 0
    have e1 := BW.out.cell 1
    have e2 := BW.out.cell 2
    go_wp2_with fail
    refine (sgood_c (2, 58, 0) w5 (okS_of _ (by decide))).mono ?_
    rintro e w6 ⟨rfl, hl⟩
    clear e0 e1 e2
    replace BX := hide (BX.out.later hl)
    replace BR := hide (BR.out.later hl)
    replace BS := hide (BS.out.later hl)
    replace L := hide (L.out.later hl)
    replace M := hide (M.out.later hl)
    replace BV := hide (BV.out.later hl)
    replace BW := hide (BW.out.later hl)
    clear hl
    rw [show (((2, 58, 0) : Sns) == (0, 0, 0)) = false from rfl]
    clear BX
    have hDr := hide (Later.refl w6).drew
    go_wp2_with fail
    refine wp_region_bag [0] [1, 2, 3] [2, 3] (by kernel_rfl) (by kernel_rfl) (by kernel_rfl) (by kernel_rfl) ?_
    have hc := fun r => (hDr.out.trans (later_rg _ r))
    have q0 := fun r => (BV.out.later (hc r)).cell 0
    have q1 := fun r => (BV.out.later (hc r)).cell 1
    have q2 := fun r => (BV.out.later (hc r)).cell 2
    have q3 := fun r => (BV.out.later (hc r)).cell 3
    have q4 := fun r => (BV.out.later (hc r)).cell 4
    refine wpM_mild rfl (fun K hK => ?_)
    go_simp
    refine hK _ ?_
    clear hK K q0 q1 q2 q3 q4 hc
    have hwd := hDr.out
    refine wpM_nil (bag_of (fun i => match i with | 3 => [1, 2] | _ => [])
      (fun W => Later w W ∧ Box W gW 30 (sc (2, 58, 0)) ∧ Med W (.agg #[(.slice a3 n c3), (.slice a6 k6 c6)]) n F D ∧ (∃ cr, NoInts cr ∧ cr.length = 5 ∧ Box W (w.heap.size + 1) 27 cr) ∧ (∃ cz : List Value, cz.length = 3 ∧ Box W (w.heap.size + 1 + 1) 30 cz))
      (fun i vals W => match i with
        | 1 => vals 1 = sval (2, 58, 0)
        | 2 => Box W (w.heap.size + 1) 27 (tc (.slice a3 n c3) (.slice a6 k6 c6) false r l)
        | 3 => Box W (w.heap.size + 1 + 1) 30 (sc (2, 58, 0))
        | _ => True) (by kernel_rfl) (by kernel_rfl) ?c1 ?c2 ?c3 ?c4 ?c5 ?c6 ?c7 ?c8)
    case c1 => exact ⟨L.out.trans hwd, BW.out.later hwd, M.out.later hwd, ⟨_, tc_noints _ _ _ _ _ _ _ _ _, rfl, BR.out.later hwd⟩, _, rfl, BS.out.later hwd⟩
    case c2 =>
      rintro W W' hl ⟨ii1, ii2, ii3, ⟨cr, jj1, jj2, jj3⟩, cz, jj4, jj5⟩
      exact ⟨ii1.trans hl, ii2.later hl, ii3.later hl, ⟨cr, jj1, jj2, jj3.later hl⟩, cz, jj4, jj5.later hl⟩
    case c3 =>
      intro i hi vals W W' hl h
      simp only [List.mem_cons, List.not_mem_nil, or_false] at hi
      rcases hi with rfl | rfl | rfl
      · exact h
      · exact Box.later h hl
      · exact Box.later h hl
    case c4 =>
      intro i hi k hk hne hds vals v W h
      simp only [List.mem_cons, List.not_mem_nil, or_false] at hi hk
      rcases hi with rfl | rfl | rfl <;> rcases hk with rfl | rfl | rfl <;> first | (exact absurd rfl hne) | (simp at hds; done) | (simpa [upd] using h)
    case c5 =>
      rintro i hi hni vals W ⟨ii1, ii2, ii3, ii4, ii5⟩ hlb hdep
      simp only [List.mem_cons, List.not_mem_nil, or_false] at hi
      rcases hi with rfl | rfl | rfl
      · have y0 := ii2.cell 0
        have y1 := ii2.cell 1
        have y2 := ii2.cell 2
        refine lVal_step rfl (fun K hK => ?_)
        simp only [putAll, List.foldl]
        go_simp
        exact ⟨Later.refl _, hK _ _ (by simp [upd])⟩
      · exact absurd (by simp) hni
      · exact absurd (by simp) hni
    case c6 =>
      rintro i hi hni vals W ⟨ii1, ii2, ii3, ⟨cr, jj1, jj2, jj3⟩, cz, jj4, jj5⟩ hlb hdep
      simp only [List.mem_cons, List.not_mem_nil, or_false] at hni
      rcases hni with rfl | rfl
      · refine sVal_store rfl rfl 27 (.tmp 4) (.tmp 16) rfl (w.heap.size + 1) (tc (.slice a3 n c3) (.slice a6 k6 c6) false r l) rfl rfl (jj3.there 0 5 (by omega)) Tryz.info_slot (tc_one _ _ _ _ _ _ _ _ _) (fun u => ⟨⟨ii1.setCells (by omega) _ 0, ii2.kept (heap_setCells_other W _ _ (box_ne ii2 jj3 (by decide)) _ _), ii3.setBox jj3 jj1 _ 0, ⟨_, tc_noints _ _ _ _ _ _ _ _ _, rfl, jj3.all _ (by simp [jj2])⟩, cz, jj4, jj5.kept (heap_setCells_other W _ _ (by omega) _ _)⟩, ?_, fun k hk => by cases hk⟩)
        exact jj3.all _ (by simp [jj2])
      · have h1 : vals 1 = sval (2, 58, 0) := hdep 1 (by simp)
        have h2 : Box W (w.heap.size + 1) 27 (tc (.slice a3 n c3) (.slice a6 k6 c6) false r l) := hdep 2 (by simp)
        refine sVal_store rfl rfl 30 (.tmp 5) (.tmp 17) rfl (w.heap.size + 1 + 1) (sc (2, 58, 0)) rfl ?_ (jj5.there 0 3 (by omega)) Tryz.info_sense (sc_one _) (fun u => ⟨⟨ii1.setCells (by omega) _ 0, ii2.kept (heap_setCells_other W _ _ hgW _ _), ii3.setOff hOff.out.1 hOff.out.2 _ 0, ⟨_, tc_noints _ _ _ _ _ _ _ _ _, rfl, h2.kept (heap_setCells_other W _ _ (by omega) _ _)⟩, _, rfl, jj5.all (sc (2, 58, 0)) (by simp [jj4])⟩, ?_, ?_⟩)
        · exact h1
        · exact jj5.all (sc (2, 58, 0)) (by simp [jj4])
        · intro k hk
          simp only [List.mem_cons, List.not_mem_nil, or_false] at hk
          rcases hk with rfl | rfl
          · exact h1
          · exact h2.kept (heap_setCells_other W _ _ (by omega) _ _)
    case c7 =>
      intro i hi hst k hk hne hds hds' vals W W' h
      simp only [List.mem_cons, List.not_mem_nil, or_false] at hst hk
      rcases hst with rfl | rfl <;> rcases hk with rfl | rfl | rfl <;> first | (exact absurd rfl hne) | (exact h) | (simp at hds; done) | (simp at hds'; done)
    case c8 =>
      rintro vals wz ⟨ii1, ii2, ii3, ii4, ii5⟩ hall
      have h1 : vals 1 = sval (2, 58, 0) := hall 1 (by simp)
      have T2 : Hid (Box wz (w.heap.size + 1) 27 (tc (.slice a3 n c3) (.slice a6 k6 c6) false r l)) := hall 2 (by simp)
      have T3 : Hid (Box wz (w.heap.size + 1 + 1) 30 (sc (2, 58, 0))) := hall 3 (by simp)
      have TL := hide ii1
      have TM := hide ii3
      clear ii1 ii2 ii3 ii4 ii5 hall BV BR BS BW L M hOff hDr hwd
      simp only [putAll, List.foldl, dstOf, h1]
      go_wp2
      refine bodyPost_ret (results_cell_cell' rfl _ _ _ (w.heap.size + 1) 0 (w.heap.size + 1 + 1) 0 rfl rfl (.agg #[(.slice a3 n c3), (.slice a6 k6 c6), .bool false, .bool r, .bool l]) (sval (2, 58, 0)) (shut5 T2.out rfl) (shut3 T3.out)) rfl ⟨.agg #[(.slice a3 n c3), (.slice a6 k6 c6), .bool false, .bool r, .bool l], ?_, TL.out, ?_⟩
      · rfl
      · exact Slt.mk' _ _ _ TM.out
set_option maxRecDepth 20000 in
set_option maxHeartbeats 2000000 in
theorem sunload_c : IUnloadT := by
  intro v n F D p r l w h hn hD
  have HDl := hide hD
  clear hD
  have HS := hide h
  obtain ⟨ab, cb, aD, k, cD, rfl, hm⟩ := h
  have HM := hide hm
  clear hm
  have BX : Hid (Box (((w.alloc (.cells #[.slice ab n cb, .slice aD k cD, .bool p, .bool r, .bool l] 27)).alloc (.cells #[.slice none 0 0, .slice none 0 0, .bool false, .bool false, .bool false] 27)).alloc (.cells #[.int .i64 0, .int .i64 0, .int .i64 0] 30)) w.heap.size 27 (tc (.slice ab n cb) (.slice aD k cD) p r l)) := ((Box.new w 27 #[.slice ab n cb, .slice aD k cD, .bool p, .bool r, .bool l]).alloc _).alloc _
  have BR : Hid (Box (((w.alloc (.cells #[.slice ab n cb, .slice aD k cD, .bool p, .bool r, .bool l] 27)).alloc (.cells #[.slice none 0 0, .slice none 0 0, .bool false, .bool false, .bool false] 27)).alloc (.cells #[.int .i64 0, .int .i64 0, .int .i64 0] 30)) (w.heap.size + 1) 27 (tc (.slice none 0 0) (.slice none 0 0) false false false)) := (Box.new' _ _ _ _ rfl _ (by simp)).alloc _
  have BS : Hid (Box (((w.alloc (.cells #[.slice ab n cb, .slice aD k cD, .bool p, .bool r, .bool l] 27)).alloc (.cells #[.slice none 0 0, .slice none 0 0, .bool false, .bool false, .bool false] 27)).alloc (.cells #[.int .i64 0, .int .i64 0, .int .i64 0] 30)) (w.heap.size + 1 + 1) 30 (sc (0, 0, 0))) := Box.new' _ _ _ _ rfl _ (by simp)
  have L := hide ((((Later.refl w).alloc (.cells #[.slice ab n cb, .slice aD k cD, .bool p, .bool r, .bool l] 27)).alloc (.cells #[.slice none 0 0, .slice none 0 0, .bool false, .bool false, .bool false] 27)).alloc (.cells #[.int .i64 0, .int .i64 0, .int .i64 0] 30))
  go_enter Tryz.func71, Tryz.ntmps71
  go_wp2_with fail
  generalize (((w.alloc (.cells #[.slice ab n cb, .slice aD k cD, .bool p, .bool r, .bool l] 27)).alloc (.cells #[.slice none 0 0, .slice none 0 0, .bool false, .bool false, .bool false] 27)).alloc (.cells #[.int .i64 0, .int .i64 0, .int .i64 0] 30)) = w1 at *
  refine (sready_c _ n F D p r l w1 (HS.out.later L.out)).mono ?_
  rintro e w2 ⟨rfl, hl⟩
  replace BX := hide (BX.out.later hl)
  replace BR := hide (BR.out.later hl)
  replace BS := hide (BS.out.later hl)
  replace L := hide (L.out.later hl)
  clear hl
  cases p with
  | false =>
    have hb : Hid (ulS false l = (2, 58, 0) ∧ btF false l n F D = F ∧ btD false l n D = D) := by simp [Hid, ulS, btF, btD]
    go_wp2_with (refine wpList_newS rfl rfl rfl 4 rfl (by simp) (.tmp 7) (by simp) rfl (2, 58, 0) rfl ?_)
    intro gW w5 hB hl hg
    have hgW : gW ≠ w.heap.size + 1 + 1 := by have h1 := BS.out.lt; have h2 := hg.out.1; omega
    replace BX := hide (BX.out.later hl)
    replace BR := hide (BR.out.later hl)
    replace BS := hide (BS.out.later hl)
    replace L := hide (L.out.later hl)
    have BW := hide hB
    clear hB hl hg
    have e0 := BW.out.cell 0
    have e1 := BW.out.cell 1
    have e2 := BW.out.cell 2
    go_wp2_with fail
    refine (sgood_c (2, 58, 0) w5 (okS_of _ (by decide))).mono ?_
    rintro e w6 ⟨rfl, hl⟩
    clear e0 e1 e2
    replace BX := hide (BX.out.later hl)
    replace BR := hide (BR.out.later hl)
    replace BS := hide (BS.out.later hl)
    replace L := hide (L.out.later hl)
    replace BW := hide (BW.out.later hl)
    clear hl
    rw [show (((2, 58, 0) : Sns) == (0, 0, 0)) = false from rfl]
    have hDr := hide (Later.refl w6).drew
    go_wp2_with fail
    refine wp_region_bag [0] [1, 2, 3, 4] [3, 4] (by kernel_rfl) (by kernel_rfl) (by kernel_rfl) (by kernel_rfl) ?_
    have hc := fun r => (hDr.out.trans (later_rg _ r))
    have q0 := fun r => (BX.out.later (hc r)).cell 0
    have q1 := fun r => (BX.out.later (hc r)).cell 1
    have q2 := fun r => (BX.out.later (hc r)).cell 2
    have q3 := fun r => (BX.out.later (hc r)).cell 3
    have q4 := fun r => (BX.out.later (hc r)).cell 4
    refine wpM_mild rfl (fun K hK => ?_)
    go_simp
    refine hK _ ?_
    clear hK K q0 q1 q2 q3 q4 hc
    have hwd := hDr.out
    refine wpM_nil (bag_of (fun i => match i with | 3 => [1] | 4 => [1, 2, 3] | _ => [])
      (fun W => Later w W ∧ Box W gW 30 (sc (2, 58, 0)) ∧ (∃ cr, NoInts cr ∧ cr.length = 5 ∧ Box W (w.heap.size + 1) 27 cr) ∧ (∃ cz : List Value, cz.length = 3 ∧ Box W (w.heap.size + 1 + 1) 30 cz))
      (fun i vals W => match i with
        | 1 => ∃ x1 y1 x2 k2 y2, vals 1 = .agg #[.slice x1 n y1, .slice x2 k2 y2, .bool false, .bool r, .bool l] ∧ Med W (.agg #[.slice x1 n y1, .slice x2 k2 y2]) n F D ∧ OffS (w.heap.size + 1 + 1) (.slice x1 n y1) ∧ OffS (w.heap.size + 1 + 1) (.slice x2 k2 y2)
        | 2 => vals 2 = sval (2, 58, 0)
        | 3 => ∃ x1 y1 x2 k2 y2, vals 1 = .agg #[.slice x1 n y1, .slice x2 k2 y2, .bool false, .bool r, .bool l] ∧ Med W (.agg #[.slice x1 n y1, .slice x2 k2 y2]) n F D ∧ OffS (w.heap.size + 1 + 1) (.slice x1 n y1) ∧ OffS (w.heap.size + 1 + 1) (.slice x2 k2 y2) ∧ Box W (w.heap.size + 1) 27 (tc (.slice x1 n y1) (.slice x2 k2 y2) false r l)
        | 4 => Box W (w.heap.size + 1 + 1) 30 (sc (2, 58, 0))
        | _ => True) (by kernel_rfl) (by kernel_rfl) ?c1 ?c2 ?c3 ?c4 ?c5 ?c6 ?c7 ?c8)
    case c1 => exact ⟨L.out.trans hwd, BW.out.later hwd, ⟨_, tc_noints _ _ _ _ _ _ _ _ _, rfl, BR.out.later hwd⟩, _, rfl, BS.out.later hwd⟩
    case c2 =>
      rintro W W' hl ⟨ii1, ii2, ⟨cr, jj1, jj2, jj3⟩, cz, jj4, jj5⟩
      exact ⟨ii1.trans hl, ii2.later hl, ⟨cr, jj1, jj2, jj3.later hl⟩, cz, jj4, jj5.later hl⟩
    case c3 =>
      intro i hi vals W W' hl h
      simp only [List.mem_cons, List.not_mem_nil, or_false] at hi
      rcases hi with rfl | rfl | rfl | rfl
      · obtain ⟨x1, y1, x2, k2, y2, h1, h2, h3, h4⟩ := h
        exact ⟨x1, y1, x2, k2, y2, h1, h2.later hl, h3, h4⟩
      · exact h
      · obtain ⟨x1, y1, x2, k2, y2, h1, h2, h3, h4, h5⟩ := h
        exact ⟨x1, y1, x2, k2, y2, h1, h2.later hl, h3, h4, Box.later h5 hl⟩
      · exact Box.later h hl
    case c4 =>
      intro i hi k hk hne hds vals v W h
      simp only [List.mem_cons, List.not_mem_nil, or_false] at hi hk
      rcases hi with rfl | rfl | rfl | rfl <;> rcases hk with rfl | rfl | rfl | rfl <;> first | (exact absurd rfl hne) | (simp at hds; done) | (simpa [upd] using h)
    case c5 =>
      rintro i hi hni vals W ⟨ii1, ii2, ii4, cz, jj4, jj5⟩ hlb hdep
      simp only [List.mem_cons, List.not_mem_nil, or_false] at hi
      rcases hi with rfl | rfl | rfl | rfl
      · refine lVal_step rfl (fun K hK => ?_)
        simp only [putAll, List.foldl]
        go_simp
        refine (sown_c W (HS.out.later ii1) hn HDl.out).mono ?_
        rintro e w3 ⟨v3, rfl, hl3, h3, hf⟩
        obtain ⟨a, b, p', r', l', e, o1, o2⟩ := hf (w.heap.size + 1 + 1) jj5.lt
        obtain ⟨x1, y1, x2, k2, y2, rfl, hm3⟩ := h3
        simp at e
        obtain ⟨rfl, rfl, _⟩ := e
        exact ⟨_, rfl, hl3, hK _ _ ⟨x1, y1, x2, k2, y2, by simp [upd], hm3, o1, o2⟩⟩
      · have y0 := ii2.cell 0
        have y1 := ii2.cell 1
        have y2 := ii2.cell 2
        refine lVal_step rfl (fun K hK => ?_)
        simp only [putAll, List.foldl]
        go_simp
        exact ⟨Later.refl _, hK _ _ (by simp [upd])⟩
      · exact absurd (by simp) hni
      · exact absurd (by simp) hni
    case c6 =>
      rintro i hi hni vals W ⟨ii1, ii2, ⟨cr, jj1, jj2, jj3⟩, cz, jj4, jj5⟩ hlb hdep
      simp only [List.mem_cons, List.not_mem_nil, or_false] at hni
      rcases hni with rfl | rfl
      · obtain ⟨x1, y1, x2, k2, y2, h1, h2, h3, h4⟩ := hdep 1 (by simp)
        refine sVal_store rfl rfl 27 (.tmp 2) (.tmp 12) rfl (w.heap.size + 1) (tc (.slice x1 n y1) (.slice x2 k2 y2) false r l) rfl h1 (jj3.there 0 5 (by omega)) Tryz.info_slot (tc_one _ _ _ _ _ _ _ _ _) (fun u => ⟨⟨ii1.setCells (by omega) _ 0, ii2.kept (heap_setCells_other W _ _ (box_ne ii2 jj3 (by decide)) _ _), ⟨_, tc_noints _ _ _ _ _ _ _ _ _, rfl, jj3.all _ (by simp [jj2])⟩, cz, jj4, jj5.kept (heap_setCells_other W _ _ (by omega) _ _)⟩, ?_, ?_⟩)
        · exact ⟨x1, y1, x2, k2, y2, by simpa [upd] using h1, h2.setBox jj3 jj1 _ 0, h3, h4, jj3.all _ (by simp [jj2])⟩
        · intro k hk
          simp only [List.mem_cons, List.not_mem_nil, or_false] at hk
          subst hk
          exact ⟨x1, y1, x2, k2, y2, h1, h2.setBox jj3 jj1 _ 0, h3, h4⟩
      · have g2 : vals 2 = sval (2, 58, 0) := hdep 2 (by simp)
        obtain ⟨x1, y1, x2, k2, y2, h1, h2, h3, h4, h5⟩ := hdep 3 (by simp)
        refine sVal_store rfl rfl 30 (.tmp 3) (.tmp 13) rfl (w.heap.size + 1 + 1) (sc (2, 58, 0)) rfl ?_ (jj5.there 0 3 (by omega)) Tryz.info_sense (sc_one _) (fun u => ⟨⟨ii1.setCells (by omega) _ 0, ii2.kept (heap_setCells_other W _ _ hgW _ _), ⟨_, tc_noints _ _ _ _ _ _ _ _ _, rfl, h5.kept (heap_setCells_other W _ _ (by omega) _ _)⟩, _, rfl, jj5.all (sc (2, 58, 0)) (by simp [jj4])⟩, ?_, ?_⟩)
        · exact g2
        · exact jj5.all (sc (2, 58, 0)) (by simp [jj4])
        · intro k hk
          simp only [List.mem_cons, List.not_mem_nil, or_false] at hk
          rcases hk with rfl | rfl | rfl
          · exact ⟨x1, y1, x2, k2, y2, h1, h2.setOff h3 h4 _ 0, h3, h4⟩
          · exact g2
          · exact ⟨x1, y1, x2, k2, y2, h1, h2.setOff h3 h4 _ 0, h3, h4, h5.kept (heap_setCells_other W _ _ (by omega) _ _)⟩
    case c7 =>
      intro i hi hst k hk hne hds hds' vals W W' h
      simp only [List.mem_cons, List.not_mem_nil, or_false] at hst hk
      rcases hst with rfl | rfl <;> rcases hk with rfl | rfl | rfl | rfl <;> first | (exact absurd rfl hne) | (simp at hds; done) | (simp at hds'; done) | (exact h)
    case c8 =>
      rintro vals wz ⟨ii1, ii2, ii4, ii5⟩ hall
      have g2 : vals 2 = sval (2, 58, 0) := hall 2 (by simp)
      obtain ⟨x1, y1, x2, k2, y2, h1, h2, h3, h4, h5⟩ := hall 3 (by simp)
      have T2 := hide h5
      have T3 : Hid (Box wz (w.heap.size + 1 + 1) 30 (sc (2, 58, 0))) := hall 4 (by simp)
      have TL := hide ii1
      have TM := hide h2
      clear ii1 ii2 ii4 ii5 hall BX BR BS BW L hDr hwd h2 h3 h4 h5
      simp only [putAll, List.foldl, dstOf, h1, g2]
      go_wp2
      refine bodyPost_ret (results_cell_cell' rfl _ _ _ (w.heap.size + 1) 0 (w.heap.size + 1 + 1) 0 rfl rfl (.agg #[.slice x1 n y1, .slice x2 k2 y2, .bool false, .bool r, .bool l]) (sval (2, 58, 0)) (shut5 T2.out rfl) (shut3 T3.out)) rfl ⟨.agg #[.slice x1 n y1, .slice x2 k2 y2, .bool false, .bool r, .bool l], ?_, TL.out, ?_⟩
      · rw [hb.out.1]
      · rw [hb.out.2.1, hb.out.2.2]; exact Slt.mk' _ _ _ TM.out
  | true =>
    go_wp2_with (refine wpList_newS rfl rfl rfl 4 rfl (by simp) (.tmp 7) (by simp) rfl (0, 0, 0) rfl ?_)
    intro gW w5 hB hl hg
    have hgW : gW ≠ w.heap.size + 1 + 1 := by have h1 := BS.out.lt; have h2 := hg.out.1; omega
    replace BX := hide (BX.out.later hl)
    replace BR := hide (BR.out.later hl)
    replace BS := hide (BS.out.later hl)
    replace L := hide (L.out.later hl)
    have BW := hide hB
    clear hB hl hg
    have e0 := BW.out.cell 0
    have e1 := BW.out.cell 1
    have e2 := BW.out.cell 2
    go_wp2_with fail
    refine (sgood_c (0, 0, 0) w5 (okS_of _ (by decide))).mono ?_
    rintro e w6 ⟨rfl, hl⟩
    clear e0 e1 e2
    replace BX := hide (BX.out.later hl)
    replace BR := hide (BR.out.later hl)
    replace BS := hide (BS.out.later hl)
    replace L := hide (L.out.later hl)
    replace BW := hide (BW.out.later hl)
    clear hl
    rw [show (((0, 0, 0) : Sns) == (0, 0, 0)) = true from rfl]
    have d0 := BX.out.cell 0
    have d1 := BX.out.cell 1
    have d2 := BX.out.cell 2
    have d3 := BX.out.cell 3
    have d4 := BX.out.cell 4
    cases l with
    | true =>
      have hb : Hid (ulS true true = (5, 83, 2) ∧ btF true true n F D = F ∧ btD true true n D = D) := by simp [Hid, ulS, btF, btD]
      go_wp2_with fail
      refine (sown_c w6 (HS.out.later L.out) hn HDl.out).mono ?_
      rintro e w7 ⟨v7, rfl, hl, h7, hf⟩
      have hO : Hid (OffT (w.heap.size + 1 + 1) v7) := hf _ BS.out.lt
      clear d0 d1 d2 d3 d4 BW
      replace BR := hide (BR.out.later hl)
      replace BS := hide (BS.out.later hl)
      replace L := hide (L.out.later hl)
      obtain ⟨a3, c3, a6, k6, c6, rfl, hm7⟩ := h7
      have M := hide hm7
      have hOff : Hid (OffS (w.heap.size + 1 + 1) (.slice a3 n c3) ∧ OffS (w.heap.size + 1 + 1) (.slice a6 k6 c6)) := by
        obtain ⟨a, b, p', r', l', e, h1, h2⟩ := hO.out
        simp at e
        obtain ⟨rfl, rfl, _⟩ := e
        exact ⟨h1, h2⟩
      clear hl hm7 hf hO BX
      go_wp2_with fail
      refine (con_Kept w7).mono ?_
      rintro e w8 ⟨rfl, hl⟩
      replace BR := hide (BR.out.later hl)
      replace BS := hide (BS.out.later hl)
      replace L := hide (L.out.later hl)
      replace M := hide (M.out.later hl)
      clear hl
      have TS := hide (two_set (gR := w.heap.size + 1) (gS := w.heap.size + 1 + 1) true r true (5, 83, 2) (by omega) (by omega) (by omega) BR.out (tc_noints _ _ _ _ _ _ _ _ _) rfl BS.out rfl L.out M.out hOff.out)
      have BS5 := hide (BS.out.kept (heap_setCells_other w8 (w.heap.size + 1) (w.heap.size + 1 + 1) (by omega) (tc (.slice a3 n c3) (.slice a6 k6 c6) true r true) 0))
      go_wp2_with (refine wpList_storeT rfl 27 (.tmp 2) (.tmp 17) rfl (w.heap.size + 1) 0 rfl (tc (.slice a3 n c3) (.slice a6 k6 c6) true r true) rfl Tryz.info_slot (tc_one _ _ _ _ _ _ _ _ _) _ _ BR.out (by simp) ?_)
      intro w98 hw98
      rw [← hw98.out] at TS BS5
      clear hw98 BR BS L M
      go_wp2_with (refine wpList_storeT rfl 30 (.tmp 3) (.tmp 18) rfl (w.heap.size + 1 + 1) 0 rfl (sc (5, 83, 2)) rfl Tryz.info_sense (sc_one _) _ _ BS5.out (by simp) ?_)
      intro w99 hw99
      rw [← hw99.out] at TS
      clear hw99 BS5
      go_wp2
      refine bodyPost_ret (results_cell_cell' rfl _ _ _ (w.heap.size + 1) 0 (w.heap.size + 1 + 1) 0 rfl rfl (.agg #[(.slice a3 n c3), (.slice a6 k6 c6), .bool true, .bool r, .bool true]) (sval (5, 83, 2)) (shut5 TS.out.1 rfl) (shut3 TS.out.2.1)) rfl ⟨.agg #[(.slice a3 n c3), (.slice a6 k6 c6), .bool true, .bool r, .bool true], ?_, TS.out.2.2.1, ?_⟩
      · rw [hb.out.1]
      · rw [hb.out.2.1, hb.out.2.2]
        exact TS.out.2.2.2
    | false =>
      have hb : Hid (ulS true false = (0, 0, 0) ∧ btF true false n F D = syncF n F D ∧ btD true false n D = syncD n D) := by simp [Hid, ulS, btF, btD]
      go_wp2_with fail
      refine (ssync_x w6 (HS.out.later L.out) hn HDl.out).mono ?_
      rintro e w7 ⟨v7, rfl, hl, h7, hf⟩
      have hO : Hid (OffT (w.heap.size + 1 + 1) v7) := hf _ BS.out.lt
      clear d0 d1 d2 d3 d4 BW
      replace BR := hide (BR.out.later hl)
      replace BS := hide (BS.out.later hl)
      replace L := hide (L.out.later hl)
      obtain ⟨a3, c3, a6, k6, c6, rfl, hm7⟩ := h7
      have M := hide hm7
      have hOff : Hid (OffS (w.heap.size + 1 + 1) (.slice a3 n c3) ∧ OffS (w.heap.size + 1 + 1) (.slice a6 k6 c6)) := by
        obtain ⟨a, b, p', r', l', e, h1, h2⟩ := hO.out
        simp at e
        obtain ⟨rfl, rfl, _⟩ := e
        exact ⟨h1, h2⟩
      clear hl hm7 hf hO BX
      go_wp2_with (refine wpList_newT rfl rfl rfl 5 rfl (by simp) (.tmp 20) (by simp) rfl a3 a6 n c3 k6 c6 true r false rfl ?_)
      intro gV w8 hB hl hg
      have hne : Hid (w.heap.size + 1 ≠ gV ∧ w.heap.size + 1 + 1 ≠ gV ∧ w.heap.size ≤ gV) := by
        have h1 := BR.out.lt
        have h2 := BS.out.lt
        have h3 := hg.out.1
        exact ⟨by omega, by omega, by omega⟩
      replace BR := hide (BR.out.later hl)
      replace BS := hide (BS.out.later hl)
      replace L := hide (L.out.later hl)
      replace M := hide (M.out.later hl)
      have BV := hide hB
      clear hl hB hg
      go_wp2_with (refine wpList_storeC rfl 4 (.tmp 21) (.const (.bool false)) rfl gV 2 rfl false rfl Tryz.info_bool _ _ BV.out (by simp) ?_)
      intro w9 hw9
      have BV5 := hide ((box_bool BV.out).1 false)
      have BR5 := hide (BR.out.kept (heap_setCells_other w8 gV (w.heap.size + 1) hne.out.1 [.bool false] 2))
      have BS5 := hide (BS.out.kept (heap_setCells_other w8 gV (w.heap.size + 1 + 1) hne.out.2.1 [.bool false] 2))
      have L5 := hide (L.out.setCells (g := gV) hne.out.2.2 [.bool false] 2)
      have M5 := hide (M.out.setBox BV.out (tc_noints _ _ _ _ _ _ _ _ _) [.bool false] 2)
      rw [← hw9.out] at BV5 BR5 BS5 L5 M5
      clear BV BR BS L M hw9
      have BR := BR5
      have BS := BS5
      have L := L5
      have M := M5
      clear BR5 BS5 L5 M5
      have d0 := BV5.out.cell 0
      have d1 := BV5.out.cell 1
      have d2 := BV5.out.cell 2
      have d3 := BV5.out.cell 3
      have d4 := BV5.out.cell 4
      have TS := hide (two_set (gR := w.heap.size + 1) (gS := w.heap.size + 1 + 1) false r false (0, 0, 0) (by omega) (by omega) (by omega) BR.out (tc_noints _ _ _ _ _ _ _ _ _) rfl BS.out rfl L.out M.out hOff.out)
      have BS5 := hide (BS.out.kept (heap_setCells_other w9 (w.heap.size + 1) (w.heap.size + 1 + 1) (by omega) (tc (.slice a3 n c3) (.slice a6 k6 c6) false r false) 0))
      go_wp2_with (refine wpList_storeT rfl 27 (.tmp 2) (.tmp 22) rfl (w.heap.size + 1) 0 rfl (tc (.slice a3 n c3) (.slice a6 k6 c6) false r false) rfl Tryz.info_slot (tc_one _ _ _ _ _ _ _ _ _) _ _ BR.out (by simp) ?_)
      intro w98 hw98
      rw [← hw98.out] at TS BS5
      clear hw98 BR BS L M
      go_wp2_with (refine wpList_storeT rfl 30 (.tmp 3) (.tmp 23) rfl (w.heap.size + 1 + 1) 0 rfl (sc (0, 0, 0)) rfl Tryz.info_sense (sc_one _) _ _ BS5.out (by simp) ?_)
      intro w99 hw99
      rw [← hw99.out] at TS
      clear hw99 BS5
      go_wp2
      refine bodyPost_ret (results_cell_cell' rfl _ _ _ (w.heap.size + 1) 0 (w.heap.size + 1 + 1) 0 rfl rfl (.agg #[(.slice a3 n c3), (.slice a6 k6 c6), .bool false, .bool r, .bool false]) (sval (0, 0, 0)) (shut5 TS.out.1 rfl) (shut3 TS.out.2.1)) rfl ⟨.agg #[(.slice a3 n c3), (.slice a6 k6 c6), .bool false, .bool r, .bool false], ?_, TS.out.2.2.1, ?_⟩
      · rw [hb.out.1]
      · rw [hb.out.2.1, hb.out.2.2]
        exact TS.out.2.2.2
end Go.Proofs.YtfakboehmcimpaaGreat
