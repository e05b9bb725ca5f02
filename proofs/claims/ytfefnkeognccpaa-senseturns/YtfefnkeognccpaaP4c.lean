import Derived.Test.YtfefnkeognccpaaP4b
namespace Go.Proofs.Ytfefnkeognccpaa
open Go.ChangeShapes Go.WideShapes Go.ChangeAt Go.RowKit
set_option linter.unusedVariables false
set_option linter.unusedSimpArgs false

/-! The landed sense: First, Parse. -/
set_option maxRecDepth 20000 in
set_option maxHeartbeats 1000000 in
theorem sfirst_c : IFirstS := by
  intro v L w h hn
  obtain ⟨h, hok⟩ := h
  have BR := hide (Box.new w 23 #[.int .i64 0, .int .i64 0, .int .i64 0])
  have L0 := hide ((Later.refl w).alloc (.cells #[.int .i64 0, .int .i64 0, .int .i64 0] 23))
  cases L with
  | nil =>
    obtain ⟨ad, cap, rfl⟩ := h.shape
    clear h
    go_enter Try.func16, Try.ntmps16
    go_wp2
    exact bodyPost_ret (results_cell_tmp rfl _ _ _ w.heap.size 0 rfl (sval (0, 0, 0)) (.slice none 0 0) (run_loadVar_mid _ _ _ _ [.int .i64 0, .int .i64 0, .int .i64 0] _ BR.out.range Try.underlying23 rfl (by kernel_rfl)) rfl) rfl ⟨_, rfl, L0.out, Sl.nil _, fun g hg => owns_off (World.ownsRow_nil w w.heap.size 23 3) hg⟩
  | cons s M =>
    have HOk := hide (tail_ok hok)
    obtain ⟨m, hm⟩ : ∃ m, m = M.length := ⟨_, rfl⟩
    simp only [List.length_cons] at h hn
    rw [← hm] at h hn
    obtain ⟨ad, cap, rfl⟩ := h.shape
    have HL := hide h
    have HM := hide hm
    obtain ⟨b, off, e, hr⟩ := h.lies? (by omega)
    subst e
    have hcap : m + 1 ≤ cap := by
      obtain ⟨_, _, a, c, e, hc, _⟩ := h
      simp at e
      omega
    have hat := sv_at (s :: M) 0 (by simp)
    have c0 := hr _ _ hat.1
    have c1 := hr _ _ hat.2.1
    have c2 := hr _ _ hat.2.2
    simp only [Nat.zero_mul, Nat.add_zero, Nat.zero_add, List.getElem_cons_zero] at c0 c1 c2
    clear h hm hok hr hat
    go_enter Try.func16, Try.ntmps16
    have hbz : ((m : Int) + 1 == 0) = false := by rw [beq_eq_false_iff_ne]; omega
    go_wp2_with fail
    generalize (w.alloc (.cells #[.int .i64 0, .int .i64 0, .int .i64 0] 23)) = w1 at *
    have hc := fun r => ((Later.refl w1).drew.trans (later_rg w1.drew r))
    have g0 := fun r => (L0.out.trans (hc r)).cellOf c0
    have g1 := fun r => (L0.out.trans (hc r)).cellOf c1
    have g2 := fun r => (L0.out.trans (hc r)).cellOf c2
    refine wp_region_tree [0, 1, 2, 3, 4] [5] [6, 7] (by kernel_rfl) (by kernel_rfl) (by kernel_rfl) (by kernel_rfl) ?_
    iterate 4 (refine wpT_mild rfl (fun K hK => ?_); go_simp; refine hK _ ?_; clear hK K)
    refine wpT_slice_lo Try.underlying34 Try.info_sense rfl (by kernel_rfl) (.tmp 11) (.const (.int .i64 1)) rfl _ (m + 1) cap rfl .i64 1 rfl (by omega) ?_
    have HT : Hid (Sl w (Go.sliced (some ⟨b, off, none⟩) 1 (m + 1) cap 3) M) := by
      have := HL.out.sliced 1 (m + 1) (by omega) (Nat.le_refl _)
      have e1 : m + 1 - 1 = m := by omega
      have e2 : ((sv (s :: M)).drop (1 * 3)).take (m * 3) = sv M := by
        rw [sv_drop]
        simp only [List.drop_succ_cons, List.drop_zero]
        exact List.take_of_length_le (by rw [sv_length, HM.out]; exact Nat.le_refl _)
      rw [e1, e2, HM.out] at this
      exact ⟨by rw [HM.out] at *; exact this, HOk.out⟩
    clear g0 g1 g2 hc c0 c1 c2
    generalize Go.sliced (some ⟨b, off, none⟩) 1 (m + 1) cap 3 = vt at *
    refine wpT_one (fun v W => SlO W w1.heap.size v M) (by kernel_rfl) (fun v W W' hl h => SlO.later h hl) (fun W hl => ?_) ?_
    · have L1W := (Later.refl w1).drew.trans hl
      refine lVal_step rfl (fun K hK => ?_)
      go_simp
      refine (slist_c W (HT.out.later (L0.out.trans L1W)) (Sl.nil _) (by have := HM.out; omega) (by simp)).mono ?_
      rintro e w3 ⟨v3, rfl, hl3, h3⟩
      refine ⟨v3, rfl, hl3, hK _ _ ?_⟩
      rw [List.append_nil] at h3
      exact h3.rebase L1W.size
    intro v6 W hl h6
    have LW := (Later.refl w1).drew.trans hl
    have BR3 := hide (BR.out.later LW)
    have L3 := hide (L0.out.trans LW)
    have hgt : w.heap.size < w1.heap.size := BR.out.lt
    have O6 : Hid (W.ownsRow w1.heap.size 23 3 v6 m (sv M)) := by unfold SlO at h6; rw [← HM.out] at h6; exact h6
    clear h6 hl LW
    have k0 := BR3.out.cell 0
    have k1 := BR3.out.cell 1
    have k2 := BR3.out.cell 2
    have f0 := BR3.out.frozen 0
    have f1 := BR3.out.frozen 1
    have f2 := BR3.out.frozen 2
    have BZ : Hid (Box (((W.setCell ⟨w.heap.size, 0, none⟩ (.int .i64 s.1)).setCell ⟨w.heap.size, 1, none⟩ (.int .i64 s.2.1)).setCell ⟨w.heap.size, 2, none⟩ (.int .i64 s.2.2)) w.heap.size 23 [.int .i64 s.1, .int .i64 s.2.1, .int .i64 s.2.2]) := ((BR3.out.set 0 _).set 1 _).set 2 _
    have LZ : Hid (Later w (((W.setCell ⟨w.heap.size, 0, none⟩ (.int .i64 s.1)).setCell ⟨w.heap.size, 1, none⟩ (.int .i64 s.2.1)).setCell ⟨w.heap.size, 2, none⟩ (.int .i64 s.2.2))) := ((L3.out.setCell (by simp) _).setCell (by simp) _).setCell (by simp) _
    have OZ : Hid ((((W.setCell ⟨w.heap.size, 0, none⟩ (.int .i64 s.1)).setCell ⟨w.heap.size, 1, none⟩ (.int .i64 s.2.1)).setCell ⟨w.heap.size, 2, none⟩ (.int .i64 s.2.2)).ownsRow w1.heap.size 23 3 v6 m (sv M)) := by
      refine owns_kept O6.out fun g hg => ?_
      have h1 := (O6.out.lt g hg).1
      rw [heap_setCell_other _ _ _ _ (by simp; omega), heap_setCell_other _ _ _ _ (by simp; omega), heap_setCell_other _ _ _ _ (by simp; omega)]
    refine wpL_cons rfl (fun K hK => ?_)
    simp only [dstOf]
    go_simp
    refine hK _ _ ?_
    clear hK K
    refine wpL_cons rfl (fun K hK => ?_)
    simp only [dstOf]
    go_simp
    refine hK _ _ (wpL_nil ?_)
    clear hK K k0 k1 k2 f0 f1 f2
    go_wp2
    refine bodyPost_ret (results_cell_tmp rfl _ _ _ w.heap.size 0 rfl (sval s) v6 (run_loadVar_mid _ _ _ _ [.int .i64 s.1, .int .i64 s.2.1, .int .i64 s.2.2] _ BZ.out.range Try.underlying23 rfl (by kernel_rfl)) rfl) rfl ⟨v6, rfl, LZ.out, ?_, fun g hg => owns_off OZ.out (by omega)⟩
    have := Rw.of_owns OZ.out
    rw [HM.out] at this
    exact ⟨this, HOk.out⟩

theorem beqb_c {u v : Value} {l m : List UInt8} (w : World) (hu : Bs w u l) (hv : Bs w v m) :
    Calls Try.prog 36 #[u, v] w fun e w' => e = .returned (.bool (l == m)) ∧ w' = w := by
  have h1 := hu.strOf
  have h2 := hv.strOf
  clear hu hv
  go_enter Try.func36, Try.ntmps36
  go_wp2
  go_ret
  rw [strOf_list, strOf_list]
  exact ⟨rfl, rfl⟩

set_option maxRecDepth 20000 in
set_option maxHeartbeats 1000000 in
theorem sparse_c : IParseS := by
  intro v l w h hll
  have HB := hide h
  have hlm := h.1
  unfold maxLen at hlm
  obtain ⟨_, ad, cap, rfl, _, hd⟩ := h
  clear hd
  have BR := hide (Box.new w 23 #[.int .i64 0, .int .i64 0, .int .i64 0])
  have L0 := hide ((Later.refl w).alloc (.cells #[.int .i64 0, .int .i64 0, .int .i64 0] 23))
  by_cases h18 : l.length = 18
  case neg =>
    have hP : Hid (parseB l = false) := by simp [Hid, parseB]; omega
    obtain ⟨n, hn⟩ : ∃ n, n = l.length := ⟨_, rfl⟩
    rw [← hn] at HB hlm h18 hll ⊢
    have hb : ((n : Int) != 18) = true := by rw [bne_iff_ne]; omega
    clear hn
    go_enter Try.func8, Try.ntmps8
    go_wp2
    refine bodyPost_ret (results_cell_tmp rfl _ _ _ w.heap.size 0 rfl (sval (0, 0, 0)) (.bool false) (run_loadVar_mid _ _ _ _ [.int .i64 0, .int .i64 0, .int .i64 0] _ BR.out.range Try.underlying23 rfl (by kernel_rfl)) rfl) rfl ⟨?_, L0.out⟩
    simp [parseS, hP.out]
  obtain ⟨b, off, e, hr⟩ := HB.out.rw.lies? (by omega)
  subst e
  have c2 := hr 2 _ (bv_get_lt l 2 (by omega))
  have c12 := hr 12 _ (bv_get_lt l 12 (by omega))
  have c13 := hr 13 _ (bv_get_lt l 13 (by omega))
  have HS : Hid (sAt l = ((l[2].toNat : Int), (l[12].toNat : Int), (l[13].toNat : Int))) := by
    simp [Hid, sAt, List.getD, List.getElem?_eq_getElem (show 2 < l.length by omega), List.getElem?_eq_getElem (show 12 < l.length by omega), List.getElem?_eq_getElem (show 13 < l.length by omega)]
  have HP : Hid (parseB l = (l == bytesL (sAt l))) := by unfold Hid; rw [BEq.comm]; simp [parseB, h18]
  generalize l[2] = x2 at *
  generalize l[12] = x12 at *
  generalize l[13] = x13 at *
  have hb2 : x2.toNat < 256 := UInt8.toNat_lt x2
  have hb12 : x12.toNat < 256 := UInt8.toNat_lt x12
  have hb13 : x13.toNat < 256 := UInt8.toNat_lt x13
  have hw2 : IntKind.i64.wrap (x2.toNat : Int) = (x2.toNat : Int) := by rw [IntKind.wrap_i64]; omega
  have hw12 : IntKind.i64.wrap (x12.toNat : Int) = (x12.toNat : Int) := by rw [IntKind.wrap_i64]; omega
  have hw13 : IntKind.i64.wrap (x13.toNat : Int) = (x13.toNat : Int) := by rw [IntKind.wrap_i64]; omega
  rw [h18] at HB ⊢
  clear hr hlm h18 hll
  go_enter Try.func8, Try.ntmps8
  go_wp2_with fail
  generalize (w.alloc (.cells #[.int .i64 0, .int .i64 0, .int .i64 0] 23)) = w1 at *
  have hc := fun r => ((Later.refl w1).drew.trans (later_rg w1.drew r))
  have g2 := fun r => (L0.out.trans (hc r)).cellOf c2
  have g12 := fun r => (L0.out.trans (hc r)).cellOf c12
  have g13 := fun r => (L0.out.trans (hc r)).cellOf c13
  refine wp_region_tree [0, 1, 2, 3, 4, 5, 6, 7, 8, 9, 10, 11, 12] [13] [14] (by kernel_rfl) (by kernel_rfl) (by kernel_rfl) (by kernel_rfl) ?_
  iterate 13 (refine wpT_mild rfl (fun K hK => ?_); go_simp; refine hK _ ?_; clear hK K)
  clear g2 g12 g13 hc c2 c12 c13
  refine wpT_one (fun v W => ∃ g, v = .pointer (some ⟨g, 0, none⟩) ∧ w1.heap.size ≤ g ∧ Box W g 23 [.int .i64 0, .int .i64 0, .int .i64 0]) (by kernel_rfl) (fun v W W' hl ⟨g, h1, h2, h3⟩ => ⟨g, h1, h2, h3.later hl⟩) (fun W hl => ?_) ?_
  · refine lVal_step rfl (fun K hK => ?_)
    go_simp
    exact ⟨(Later.refl W).alloc _, hK _ _ ⟨W.heap.size, rfl, ((Later.refl w1).drew.trans hl).size, Box.new W _ _⟩⟩
  intro v W hl ⟨g, hv, hg, hB⟩
  subst hv
  have LW := (Later.refl w1).drew.trans hl
  have k0 := hB.cell 0
  have k1 := hB.cell 1
  have k2 := hB.cell 2
  have f0 := hB.frozen 0
  have f1 := hB.frozen 1
  have f2 := hB.frozen 2
  have BS : Hid (Box (((W.setCell ⟨g, 0, none⟩ (.int .i64 (x2.toNat : Int))).setCell ⟨g, 1, none⟩ (.int .i64 (x12.toNat : Int))).setCell ⟨g, 2, none⟩ (.int .i64 (x13.toNat : Int))) g 23 [.int .i64 (x2.toNat : Int), .int .i64 (x12.toNat : Int), .int .i64 (x13.toNat : Int)]) := ((hB.set 0 _).set 1 _).set 2 _
  have L2 : Hid (Later w1 (((W.setCell ⟨g, 0, none⟩ (.int .i64 (x2.toNat : Int))).setCell ⟨g, 1, none⟩ (.int .i64 (x12.toNat : Int))).setCell ⟨g, 2, none⟩ (.int .i64 (x13.toNat : Int)))) := ((LW.setCell (by simpa using hg) _).setCell (by simpa using hg) _).setCell (by simpa using hg) _
  refine wpL_cons rfl (fun K hK => ?_)
  simp only [dstOf]
  go_simp
  refine hK _ _ (wpL_nil ?_)
  clear hK K k0 k1 k2 f0 f1 f2 hl LW hB
  generalize (((W.setCell ⟨g, 0, none⟩ (.int .i64 (x2.toNat : Int))).setCell ⟨g, 1, none⟩ (.int .i64 (x12.toNat : Int))).setCell ⟨g, 2, none⟩ (.int .i64 (x13.toNat : Int))) = w2 at *
  have BR2 := hide (BR.out.later L2.out)
  have LL := hide (L0.out.trans L2.out)
  have hgr : g ≠ w.heap.size := by have := BR.out.lt; omega
  clear L2 BR L0
  have s0 := BS.out.cell 0
  have s1 := BS.out.cell 1
  have s2 := BS.out.cell 2
  go_wp2_with fail
  refine (sbytes_c ((x2.toNat : Int), (x12.toNat : Int), (x13.toNat : Int)) w2 ⟨by simp only []; omega, by simp only []; omega, by simp only []; omega⟩).mono ?_
  rintro e w3 ⟨v3, rfl, hl, h3⟩
  replace BS := hide (BS.out.later hl)
  replace BR2 := hide (BR2.out.later hl)
  replace LL := hide (LL.out.later hl)
  have HB3 := hide h3
  clear hl h3 s0 s1 s2
  go_wp2_with fail
  refine (beqb_c _ (HB.out.later LL.out) HB3.out).mono ?_
  rintro e w4 ⟨rfl, hw⟩
  have hw' := hw.symm
  subst hw'
  clear hw
  have HP2 : Hid (parseB l = (l == bytesL ((x2.toNat : Int), (x12.toNat : Int), (x13.toNat : Int)))) := by unfold Hid; rw [HP.out, HS.out]
  have r0 := BR2.out.cell 0
  have r1 := BR2.out.cell 1
  have r2 := BR2.out.cell 2
  have f0 := BR2.out.frozen 0
  have f1 := BR2.out.frozen 1
  have f2 := BR2.out.frozen 2
  have s0 := BS.out.cell 0
  have s1 := BS.out.cell 1
  have s2 := BS.out.cell 2
  generalize hPb : (l == bytesL ((x2.toNat : Int), (x12.toNat : Int), (x13.toNat : Int))) = pb at *
  clear hPb
  cases pb with
  | true =>
    have BZ : Hid (Box (((w3.setCell ⟨w.heap.size, 0, none⟩ (.int .i64 (x2.toNat : Int))).setCell ⟨w.heap.size, 1, none⟩ (.int .i64 (x12.toNat : Int))).setCell ⟨w.heap.size, 2, none⟩ (.int .i64 (x13.toNat : Int))) w.heap.size 23 [.int .i64 (x2.toNat : Int), .int .i64 (x12.toNat : Int), .int .i64 (x13.toNat : Int)]) := ((BR2.out.set 0 _).set 1 _).set 2 _
    have LZ : Hid (Later w (((w3.setCell ⟨w.heap.size, 0, none⟩ (.int .i64 (x2.toNat : Int))).setCell ⟨w.heap.size, 1, none⟩ (.int .i64 (x12.toNat : Int))).setCell ⟨w.heap.size, 2, none⟩ (.int .i64 (x13.toNat : Int)))) := ((LL.out.setCell (by simp) _).setCell (by simp) _).setCell (by simp) _
    go_wp2
    refine bodyPost_ret (results_cell_tmp rfl _ _ _ w.heap.size 0 rfl (.agg #[.int .i64 (x2.toNat : Int), .int .i64 (x12.toNat : Int), .int .i64 (x13.toNat : Int)]) (.bool true) (run_loadVar_mid _ _ _ _ [.int .i64 (x2.toNat : Int), .int .i64 (x12.toNat : Int), .int .i64 (x13.toNat : Int)] _ BZ.out.range Try.underlying23 rfl (by kernel_rfl)) rfl) rfl ⟨?_, LZ.out⟩
    rw [parseS, HP2.out, if_pos rfl, HS.out]
  | false =>
    have BZ : Hid (Box (((w3.setCell ⟨w.heap.size, 0, none⟩ (.int .i64 0)).setCell ⟨w.heap.size, 1, none⟩ (.int .i64 0)).setCell ⟨w.heap.size, 2, none⟩ (.int .i64 0)) w.heap.size 23 [.int .i64 0, .int .i64 0, .int .i64 0]) := ((BR2.out.set 0 _).set 1 _).set 2 _
    have LZ : Hid (Later w (((w3.setCell ⟨w.heap.size, 0, none⟩ (.int .i64 0)).setCell ⟨w.heap.size, 1, none⟩ (.int .i64 0)).setCell ⟨w.heap.size, 2, none⟩ (.int .i64 0))) := ((LL.out.setCell (by simp) _).setCell (by simp) _).setCell (by simp) _
    go_wp2
    refine bodyPost_ret (results_cell_tmp rfl _ _ _ w.heap.size 0 rfl (sval (0, 0, 0)) (.bool false) (run_loadVar_mid _ _ _ _ [.int .i64 0, .int .i64 0, .int .i64 0] _ BZ.out.range Try.underlying23 rfl (by kernel_rfl)) rfl) rfl ⟨?_, LZ.out⟩
    simp [parseS, HP2.out]
theorem alive4_ok : Alive4 := alive4_c con_all sbytes_c sparse_c sgood_c sadd_c sfirst_c
end Go.Proofs.Ytfefnkeognccpaa
