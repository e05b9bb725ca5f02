import Derived.Deep.Slices
import Derived.Test.YtkbpecbpfajkfaaMAH
import Derived.Test.YtkbpecbpfajkfaaMAD
import Derived.Test.YtkbpecbpfajkfaaMAB
import Derived.Test.YtkbpecbpfajkfaaMAE
namespace Go.Proofs.Ytkbpecbpfajkfaa
open Go.ChangeShapes Go.WideShapes Go.ChangeAt Go.RowKit
set_option linter.unusedVariables false
set_option linter.unusedSimpArgs false

set_option maxRecDepth 20000 in
set_option maxHeartbeats 1000000 in
theorem rwrite3_fx {v : Value} {n : Nat} {F : List UInt8} {D : List Drt} (at_ : Int) (X : List UInt8) (w : World) (h : Med w v n F D) (hX : X.length = 64) (ha : -9223372036854775808 ≤ at_) (ha' : at_ ≤ 9223372036854775807) :
    Calls Try.prog 59 #[v, .int .i64 at_, .agg (bv X).toArray, .bool false] w fun e w' => ∃ v', e = .returned (.tuple #[v', .int .i64 (wrE n D at_)]) ∧ Later w w' ∧ Med w' v' (wrN n D at_) (wrF n F D at_ X false) (wrD n D at_ X false) ∧ ∀ g, g < w.heap.size → OffM g v' := by
  have HM := hide h
  obtain ⟨vb, vd, rfl, hb, hd, hok⟩ := h
  obtain ⟨ab, cb, rfl⟩ := hb.shape
  obtain ⟨k, hk⟩ : ∃ k, k = D.length := ⟨_, rfl⟩
  rw [← hk] at hd
  obtain ⟨aD, cD, rfl⟩ := hd.shape
  have hnm := hb.2.1
  have hkm := hd.2.1
  unfold maxLen at hnm hkm
  have HB := hide hb
  have HD := hide hd
  have HO := hide hok
  have HK := hide hk
  have HX := hide hX
  clear hb hd hk hok hX
  go_enter Try.func59, Try.ntmps59
  go_wp2_with fail
  refine (rright_c _ (HM.out.later ((((Later.refl w).alloc _).alloc _).alloc _))).mono ?_
  rintro e w2 ⟨rfl, hl2⟩
  have L2 : Hid (Later w w2) := Later.trans ((((Later.refl w).alloc _).alloc _).alloc _) hl2
  have BX : Hid (Box w2 w.heap.size 25 [.slice ab n cb, .slice aD k cD]) := Box.later ((Box.new w 25 #[.slice ab n cb, .slice aD k cD]).alloc _ |>.alloc _) hl2
  have BR : Hid (Box w2 (w.heap.size + 1 + 1) 25 [.slice none 0 0, .slice none 0 0]) := Box.later (Box.new' _ _ _ _ rfl _ (by simp)) hl2
  have BD : Hid (Box w2 (w.heap.size + 1) 50 (bv X)) := Box.later ((Box.new' _ _ _ _ (by simp) _ (by simp)).alloc _) hl2
  clear hl2
  have d0 := BX.out.cell 0
  have d1 := BX.out.cell 1
  have r0 := BR.out.cell 0
  have r1 := BR.out.cell 1
  have f0 := BR.out.frozen 0
  have f1 := BR.out.frozen 1
  have BZ : Hid (Box ((w2.setCell ⟨w.heap.size + 1 + 1, 0, none⟩ (.slice none 0 0)).setCell ⟨w.heap.size + 1 + 1, 1, none⟩ (.slice none 0 0)) (w.heap.size + 1 + 1) 25 [.slice none 0 0, .slice none 0 0]) := (BR.out.set 0 _).set 1 _
  have LZ : Hid (Later w ((w2.setCell ⟨w.heap.size + 1 + 1, 0, none⟩ (.slice none 0 0)).setCell ⟨w.heap.size + 1 + 1, 1, none⟩ (.slice none 0 0))) := (L2.out.setCell (by simp; omega) _).setCell (by simp; omega) _
  by_cases hR : rightB n D = true
  case neg =>
    have hR' : rightB n D = false := by simpa using hR
    rw [hR']
    go_wp2
    refine bodyPost_ret (results_cell_tmp rfl _ _ _ (w.heap.size + 1 + 1) 0 rfl (.agg #[.slice none 0 0, .slice none 0 0]) (.int .i64 1) (run_loadVar_mid _ _ _ _ [.slice none 0 0, .slice none 0 0] _ BZ.out.range Try.underlying25 rfl (by kernel_rfl)) rfl) rfl ⟨.agg #[.slice none 0 0, .slice none 0 0], ?_, LZ.out, ?_, fun g _ => ⟨_, _, rfl, trivial, trivial⟩⟩
    · simp [wrE, hR']
    · simpa [wrE, wrN, wrF, wrD, hR'] using Med.nil _
  rw [hR]
  by_cases hin : 0 ≤ at_ ∧ at_ < n
  case neg =>
    have hE : Hid (wrE n D at_ = 5) := by simp only [Hid, wrE, hR, if_true, if_neg hin]
    by_cases c1 : at_ < 0
    · go_wp2
      refine bodyPost_ret (results_cell_tmp rfl _ _ _ (w.heap.size + 1 + 1) 0 rfl (.agg #[.slice none 0 0, .slice none 0 0]) (.int .i64 5) (run_loadVar_mid _ _ _ _ [.slice none 0 0, .slice none 0 0] _ BZ.out.range Try.underlying25 rfl (by kernel_rfl)) rfl) rfl ⟨.agg #[.slice none 0 0, .slice none 0 0], by rw [hE.out], LZ.out, ?_, fun g _ => ⟨_, _, rfl, trivial, trivial⟩⟩
      simpa [wrN, wrF, wrD, hE.out] using Med.nil _
    · have c3 : (n : Int) ≤ at_ := by omega
      go_wp2
      refine bodyPost_ret (results_cell_tmp rfl _ _ _ (w.heap.size + 1 + 1) 0 rfl (.agg #[.slice none 0 0, .slice none 0 0]) (.int .i64 5) (run_loadVar_mid _ _ _ _ [.slice none 0 0, .slice none 0 0] _ BZ.out.range Try.underlying25 rfl (by kernel_rfl)) rfl) rfl ⟨.agg #[.slice none 0 0, .slice none 0 0], by rw [hE.out], LZ.out, ?_, fun g _ => ⟨_, _, rfl, trivial, trivial⟩⟩
      simpa [wrN, wrF, wrD, hE.out] using Med.nil _
  have hE : Hid (wrE n D at_ = 0) := by simp only [Hid, wrE, hR, if_true, if_pos hin]
  have hR2 := hR
  simp only [rightB, decide_eq_true_eq] at hR2
  have hn64 := hR2.1
  have hk64 : k ≤ 64 := by have := hR2.2.1; have := HK.out; omega
  have HFit := hide (fit_of_right hR HO.out)
  obtain ⟨z, rfl⟩ := Int.eq_ofNat_of_zero_le hin.1
  have hzn : z < n := by omega
  have c1 : ¬ (z : Int) < 0 := by omega
  have c3 : ¬ (n : Int) ≤ (z : Int) := by omega
  clear hin hR2 hR BZ LZ
  by_cases hk6 : k = 64
  · have hkq : ((k : Int) == 64) = true := by simp; omega
    have HK6 := hide hk6
    clear hk6
    go_wp2_with fail
    refine (rflushed_c 0 (n : Int) w2 (HM.out.later L2.out) hn64 (by have := HK.out; omega) HFit.out).mono ?_
    rintro e w3 ⟨vb, vd, rfl, hl3, h1, h2⟩
    have L3 := hide (L2.out.trans hl3)
    have BX3 := hide (Box.later BX.out hl3)
    have BR3 := hide (Box.later BR.out hl3)
    have BD3 := hide (Box.later BD.out hl3)
    have hs2 : w.heap.size + 1 + 1 < w2.heap.size := BR.out.lt
    obtain ⟨g, c3, e, hg⟩ := owns_head h1 (by omega)
    subst e
    obtain ⟨m6, hm6⟩ : ∃ m6, m6 = (D.filter fun d => !inR 0 (n : Int) d).length := ⟨_, rfl⟩
    rw [← hm6] at h2
    have HM6 := hide hm6
    have hm64 : m6 ≤ 64 := by
      have := List.length_filter_le (fun d => !inR 0 (n : Int) d) D
      have := HK.out
      omega
    clear hm6
    obtain ⟨a6, c6, rfl⟩ := (Rw.of_owns h2).shape
    have c0 := BX3.out.cell 0
    have c1 := BX3.out.cell 1
    have g0 := BX3.out.frozen 0
    have g1 := BX3.out.frozen 1
    have hne : ∀ j, j ≠ w.heap.size → ((w3.setCell ⟨w.heap.size, 0, none⟩ (.slice (some ⟨g, 0, none⟩) n c3)).setCell ⟨w.heap.size, 1, none⟩ (.slice a6 m6 c6)).heap[j]? = w3.heap[j]? := fun j hj => by
      rw [heap_setCell_other _ _ _ _ (by simpa using hj), heap_setCell_other _ _ _ _ (by simpa using hj)]
    have L5 : Hid (Later w ((w3.setCell ⟨w.heap.size, 0, none⟩ (.slice (some ⟨g, 0, none⟩) n c3)).setCell ⟨w.heap.size, 1, none⟩ (.slice a6 m6 c6))) := (L3.out.setCell (by simp) _).setCell (by simp) _
    have BX5 : Hid (Box ((w3.setCell ⟨w.heap.size, 0, none⟩ (.slice (some ⟨g, 0, none⟩) n c3)).setCell ⟨w.heap.size, 1, none⟩ (.slice a6 m6 c6)) w.heap.size 25 [.slice (some ⟨g, 0, none⟩) n c3, .slice a6 m6 c6]) := (BX3.out.set 0 _).set 1 _
    have BR5 := hide (BR3.out.kept (hne (w.heap.size + 1 + 1) (by omega)))
    have BD5 := hide (BD3.out.kept (hne (w.heap.size + 1) (by omega)))
    have RB := hide (Rw.of_owns (owns_kept h1 fun j hj => hne j (fun e => box_ne_own BX3.out h1 (by decide) j hj e.symm)))
    have RD := hide (Rw.of_owns (owns_kept h2 fun j hj => hne j (fun e => box_ne_own BX3.out h2 (by decide) j hj e.symm)))
    have HF5 : Hid (wrF n F D z X false = app F (D.filter (inR 0 (n : Int)))) := by
      have h1 := HK.out
      have h2 := HK6.out
      simp [Hid, wrF, hE.out]
      intro h3; omega
    have HD5 : Hid (wrD n D z X false = D.filter (fun d => !inR 0 (n : Int) d) ++ [((z : Int), X)]) := by
      have h1 := HK.out
      have h2 := HK6.out
      simp [Hid, wrD, hE.out]
      intro h3; omega
    have HO5 := hide (HO.out.filter (fun d => !inR 0 (n : Int) d))
    have hk65 := hm64
    clear L2 BX BR BD d0 d1 r0 r1 f0 f1 h1 h2 hl3 L3 BX3 BR3 BD3 hne
    go_wp2_with fail
    generalize ((w3.setCell ⟨w.heap.size, 0, none⟩ (.slice (some ⟨g, 0, none⟩) n c3)).setCell ⟨w.heap.size, 1, none⟩ (.slice a6 m6 c6)) = w5 at *
    clear c0 c1 g0 g1
    generalize app F (D.filter (inR 0 (n : Int))) = F5 at *
    generalize D.filter (fun d => !inR 0 (n : Int) d) = D5 at *
    have hc0 := fun r => (Box.later BX5.out ((Later.refl w5).drew.trans (later_rg w5.drew r))).cell 0
    have hc1 := fun r => (Box.later BX5.out ((Later.refl w5).drew.trans (later_rg w5.drew r))).cell 1
    refine wp_region_tree [0, 1, 4, 5, 7, 8, 9] [2, 3, 6, 10] [11, 12, 13, 14] (by kernel_rfl) (by kernel_rfl) (by kernel_rfl) (by kernel_rfl) ?_
    iterate 5 (refine wpT_mild rfl (fun K hK => ?_); go_simp; refine hK _ ?_; clear hK K)
    refine wpT_loadG rfl rfl 50 (.tmp 6) rfl (w.heap.size + 1) 0 rfl (bv X) _ ((World.rangeAt_drew _ _ _ _).2 BD5.out.range) Try.underlying50 rfl (by rw [Try.info_block, bv_length, HX.out]) ?_
    refine wpT_mild rfl (fun K hK => ?_)
    go_simp
    rw [dirty_build (.int .i64 (z : Int)) (bv X) _ ?hZ (by rw [bv_length, HX.out])]
    case hZ => first | exact zc65_size | rfl
    refine ⟨_, fun p => ⟨rfl, rfl⟩, hK _ ?_⟩
    clear hK K hc0 hc1
    have hdv : Hid (dv [((z : Int), X)] = .int .i64 (z : Int) :: bv X) := by simp [Hid, dv]
    refine wpT_bag (fun i => match i with | 6 => [2, 3] | _ => []) (fun i vals W => match i with
      | 2 => W.ownsRow w5.heap.size 50 64 (vals 2) n (bv F5)
      | 3 => ∃ g, vals 3 = .slice (some ⟨g, 0, none⟩) 0 0 ∧ W.ownsRow w5.heap.size 80 65 (vals 3) 0 []
      | 6 => W.ownsRow w5.heap.size 80 65 (vals 6) m6 (dv D5)
      | 10 => Rw 65 W (vals 10) 1 (dv [((z : Int), X)])
      | _ => True) (by kernel_rfl) ?b1 ?b2 ?b3 ?b4
    case b1 =>
      intro i hi vals W W' hl h
      simp only [List.mem_cons, List.not_mem_nil, or_false] at hi
      rcases hi with rfl | rfl | rfl | rfl
      · exact owns_later h hl
      · obtain ⟨g, h1, h2⟩ := h; exact ⟨g, h1, owns_later h2 hl⟩
      · exact owns_later h hl
      · exact Rw.later h hl
    case b2 =>
      intro i hi k hk hne hds vals v W h
      simp only [List.mem_cons, List.not_mem_nil, or_false] at hi hk
      rcases hi with rfl | rfl | rfl | rfl <;> rcases hk with rfl | rfl | rfl | rfl <;> first | (exact absurd rfl hne) | (simpa [upd] using h) | (simp at hds)
    case b3 =>
      intro i hi vals W hl hdep
      have LW := hide ((Later.refl w5).drew.trans hl)
      simp only [List.mem_cons, List.not_mem_nil, or_false] at hi
      rcases hi with rfl | rfl | rfl | rfl
      · refine lVal_step rfl (fun K hK => ?_)
        simp only [putAll, List.foldl]
        go_simp
        refine (rcopy_c W W.heap.size (Nat.le_refl _) (RB.out.later LW.out) (by omega)).mono ?_
        rintro e w3 ⟨v3, rfl, hl3, ho3⟩
        exact ⟨v3, rfl, hl3, hK _ _ (by simpa [upd] using owns_rebase ho3 LW.out.size)⟩
      · refine lVal_step rfl (fun K hK => ?_)
        simp only [putAll, List.foldl]
        go_simp
        refine ⟨(Later.refl W).alloc _, hK _ _ ⟨W.heap.size, by simp [upd], ?_⟩⟩
        have := World.ownsRow_lit (e := 80) (size := 65) W #[] 0 LW.out.size (by simp [maxLen]) rfl
        simpa [upd] using this
      · obtain ⟨g, hg, ho⟩ := hdep 3 (by simp)
        rw [hg] at ho
        refine lVal_append_lit Try.elem_dirty Try.underlying23 z65_size (by decide) rfl rfl (.tmp 49) (.tmp 51) rfl w5.heap.size g ?_ ho LW.out.size _ m6 (dv D5) rfl (RD.out.later LW.out) (dv_one _) (by omega) ?_
        · show vals 3 = _
          exact hg
        · intro v' w' h
          simpa [upd] using h
      · refine lVal_buildOne Try.elem_dirty Try.underlying23 z65_size (by decide) (by decide) rfl rfl (.tmp 55) rfl (.int .i64 (z : Int) :: bv X) rfl (by simp [bv_length, HX.out]) ?_
        intro h
        show Rw 65 _ (upd vals 10 _ 10) 1 (dv [((z : Int), X)])
        rw [upd_same, hdv.out]
        exact h
    case b4 =>
      intro vals W hl hall
      have LW := hide ((Later.refl w5).drew.trans hl)
      have h2 := hall 2 (by simp)
      have h6 := hall 6 (by simp)
      have h10 := hall 10 (by simp)
      have H2 : Hid (W.ownsRow w5.heap.size 50 64 (vals 2) n (bv F5)) := h2
      have H6 : Hid (W.ownsRow w5.heap.size 80 65 (vals 6) m6 (dv D5)) := h6
      have H10 : Hid (Rw 65 W (vals 10) 1 (dv [((z : Int), X)])) := h10
      clear h2 h6 h10 hall hl
      generalize hv2 : vals 2 = v2 at *
      generalize hv6 : vals 6 = v6 at *
      generalize hv10 : vals 10 = v10 at *
      refine wpL_append_rw Try.elem_dirty Try.underlying23 z65_size (by decide) rfl rfl (.tmp 52) (.tmp 56) rfl w5.heap.size v6 m6 (dv D5) (by exact hv6) H6.out v10 1 _ (by exact hv10) H10.out (dv_one _) (by omega) (by unfold maxLen; omega) LW.out.size ?_
      intro v11 W1 ho11 hg11
      have L1 : Hid (Later w W1) := Below.grown (L5.out.trans LW.out) hg11 (L5.out.trans LW.out).size (fun j hj => Nat.le_trans L5.out.size (H6.out.lt j hj).1)
      have B1 := hide (box_grown (BR5.out.later LW.out) H6.out (by decide) hg11)
      have O2 := hide (owns_kept (w' := W1) H2.out fun j hj => hg11.block j (H2.out.lt j hj).2 (own_ne_own H2.out H6.out (by decide) j hj).symm)
      have O11 := hide ho11
      clear ho11 hg11 H2 H6 H10 LW
      obtain ⟨a2, c2, e2⟩ := (Rw.of_owns O2.out).shape
      subst e2
      obtain ⟨a11, c11, e11⟩ := (Rw.of_owns O11.out).shape
      subst e11
      have c0 := B1.out.cell 0
      have c1 := B1.out.cell 1
      have f0 := B1.out.frozen 0
      have f1 := B1.out.frozen 1
      refine wpL_cons rfl (fun K hK => ?_)
      simp only [putAll, List.foldl, dstOf]
      go_simp
      refine hK _ _ ?_
      clear hK K
      refine wpL_cons rfl (fun K hK => ?_)
      go_simp
      refine hK _ _ ?_
      clear hK K
      refine wpL_cons rfl (fun K hK => ?_)
      go_simp
      refine hK _ _ (wpL_nil ?_)
      clear hK K
      have hne : ∀ j, j ≠ w.heap.size + 1 + 1 → ((W1.setCell ⟨w.heap.size + 1 + 1, 0, none⟩ (.slice a2 n c2)).setCell ⟨w.heap.size + 1 + 1, 1, none⟩ (.slice a11 (m6 + 1) c11)).heap[j]? = W1.heap[j]? := fun j hj => by
        rw [heap_setCell_other _ _ _ _ (by simpa using hj), heap_setCell_other _ _ _ _ (by simpa using hj)]
      have BE : Hid (Box ((W1.setCell ⟨w.heap.size + 1 + 1, 0, none⟩ (.slice a2 n c2)).setCell ⟨w.heap.size + 1 + 1, 1, none⟩ (.slice a11 (m6 + 1) c11)) (w.heap.size + 1 + 1) 25 [.slice a2 n c2, .slice a11 (m6 + 1) c11]) := (B1.out.set 0 _).set 1 _
      have LE : Hid (Later w ((W1.setCell ⟨w.heap.size + 1 + 1, 0, none⟩ (.slice a2 n c2)).setCell ⟨w.heap.size + 1 + 1, 1, none⟩ (.slice a11 (m6 + 1) c11))) := (L1.out.setCell (by simp; omega) _).setCell (by simp; omega) _
      have ME : Hid (Med ((W1.setCell ⟨w.heap.size + 1 + 1, 0, none⟩ (.slice a2 n c2)).setCell ⟨w.heap.size + 1 + 1, 1, none⟩ (.slice a11 (m6 + 1) c11)) (.agg #[.slice a2 n c2, .slice a11 (m6 + 1) c11]) (wrN n D z) (wrF n F D z X false) (wrD n D z X false) ∧ ∀ g, g < w.heap.size → OffM g (.agg #[.slice a2 n c2, .slice a11 (m6 + 1) c11])) := by
        have e1 := owns_kept O2.out fun j hj => hne j (fun e => box_ne_own B1.out O2.out (by decide) j hj e.symm)
        have e2 := owns_kept O11.out fun j hj => hne j (fun e => box_ne_own B1.out O11.out (by decide) j hj e.symm)
        rw [show wrN n D z = n from by simp [wrN, hE.out], HF5.out, HD5.out]
        refine ⟨⟨_, _, rfl, Rw.of_owns e1, ?_, ?_⟩, fun g hg => ⟨_, _, rfl, owns_off O2.out (Nat.lt_of_lt_of_le hg L5.out.size), owns_off O11.out (Nat.lt_of_lt_of_le hg L5.out.size)⟩⟩
        · rw [dv_append, List.length_append, ← HM6.out]
          exact Rw.of_owns e2
        · refine HO5.out.append fun d hd => ?_
          have : d = ((z : Int), X) := by simpa using hd
          subst this
          exact ⟨HX.out, by omega, by omega⟩
      clear c0 c1 f0 f1 hne B1 O2 O11 L1
      generalize ((W1.setCell ⟨w.heap.size + 1 + 1, 0, none⟩ (.slice a2 n c2)).setCell ⟨w.heap.size + 1 + 1, 1, none⟩ (.slice a11 (m6 + 1) c11)) = WE at *
      go_wp2
      exact bodyPost_ret (results_cell_tmp rfl _ _ _ (w.heap.size + 1 + 1) 0 rfl (.agg #[.slice a2 n c2, .slice a11 (m6 + 1) c11]) (.int .i64 0) (run_loadVar_mid _ _ _ _ [.slice a2 n c2, .slice a11 (m6 + 1) c11] _ BE.out.range Try.underlying25 rfl (by kernel_rfl)) rfl) rfl ⟨.agg #[.slice a2 n c2, .slice a11 (m6 + 1) c11], by rw [hE.out], LE.out, ME.out.1, ME.out.2⟩
  · have hkq : ((k : Int) == 64) = false := by simp; omega
    have HF5 : Hid (wrF n F D z X false = F) := by
      have h1 := HK.out
      simp [Hid, wrF, hE.out]
      intro h3; omega
    have HD5 : Hid (wrD n D z X false = D ++ [((z : Int), X)]) := by
      have h1 := HK.out
      simp [Hid, wrD, hE.out]
      intro h3; omega
    go_wp2_with fail
    have L5 := L2
    have BX5 := BX
    have BR5 := BR
    have BD5 := BD
    have RB := hide (HB.out.later L2.out)
    have RD := hide (HD.out.later L2.out)
    have HO5 := HO
    have hk65 := hk64
    clear L2 BX BR BD d0 d1 r0 r1 f0 f1
    have hc0 := fun r => (Box.later BX5.out ((Later.refl w2).drew.trans (later_rg w2.drew r))).cell 0
    have hc1 := fun r => (Box.later BX5.out ((Later.refl w2).drew.trans (later_rg w2.drew r))).cell 1
    refine wp_region_tree [0, 1, 4, 5, 7, 8, 9] [2, 3, 6, 10] [11, 12, 13, 14] (by kernel_rfl) (by kernel_rfl) (by kernel_rfl) (by kernel_rfl) ?_
    iterate 5 (refine wpT_mild rfl (fun K hK => ?_); go_simp; refine hK _ ?_; clear hK K)
    refine wpT_loadG rfl rfl 50 (.tmp 6) rfl (w.heap.size + 1) 0 rfl (bv X) _ ((World.rangeAt_drew _ _ _ _).2 BD5.out.range) Try.underlying50 rfl (by rw [Try.info_block, bv_length, HX.out]) ?_
    refine wpT_mild rfl (fun K hK => ?_)
    go_simp
    rw [dirty_build (.int .i64 (z : Int)) (bv X) _ ?hZ (by rw [bv_length, HX.out])]
    case hZ => first | exact zc65_size | rfl
    refine ⟨_, fun p => ⟨rfl, rfl⟩, hK _ ?_⟩
    clear hK K hc0 hc1
    have hdv : Hid (dv [((z : Int), X)] = .int .i64 (z : Int) :: bv X) := by simp [Hid, dv]
    refine wpT_bag (fun i => match i with | 6 => [2, 3] | _ => []) (fun i vals W => match i with
      | 2 => W.ownsRow w2.heap.size 50 64 (vals 2) n (bv F)
      | 3 => ∃ g, vals 3 = .slice (some ⟨g, 0, none⟩) 0 0 ∧ W.ownsRow w2.heap.size 80 65 (vals 3) 0 []
      | 6 => W.ownsRow w2.heap.size 80 65 (vals 6) k (dv D)
      | 10 => Rw 65 W (vals 10) 1 (dv [((z : Int), X)])
      | _ => True) (by kernel_rfl) ?b1 ?b2 ?b3 ?b4
    case b1 =>
      intro i hi vals W W' hl h
      simp only [List.mem_cons, List.not_mem_nil, or_false] at hi
      rcases hi with rfl | rfl | rfl | rfl
      · exact owns_later h hl
      · obtain ⟨g, h1, h2⟩ := h; exact ⟨g, h1, owns_later h2 hl⟩
      · exact owns_later h hl
      · exact Rw.later h hl
    case b2 =>
      intro i hi k hk hne hds vals v W h
      simp only [List.mem_cons, List.not_mem_nil, or_false] at hi hk
      rcases hi with rfl | rfl | rfl | rfl <;> rcases hk with rfl | rfl | rfl | rfl <;> first | (exact absurd rfl hne) | (simpa [upd] using h) | (simp at hds)
    case b3 =>
      intro i hi vals W hl hdep
      have LW := hide ((Later.refl w2).drew.trans hl)
      simp only [List.mem_cons, List.not_mem_nil, or_false] at hi
      rcases hi with rfl | rfl | rfl | rfl
      · refine lVal_step rfl (fun K hK => ?_)
        simp only [putAll, List.foldl]
        go_simp
        refine (rcopy_c W W.heap.size (Nat.le_refl _) (RB.out.later LW.out) (by omega)).mono ?_
        rintro e w3 ⟨v3, rfl, hl3, ho3⟩
        exact ⟨v3, rfl, hl3, hK _ _ (by simpa [upd] using owns_rebase ho3 LW.out.size)⟩
      · refine lVal_step rfl (fun K hK => ?_)
        simp only [putAll, List.foldl]
        go_simp
        refine ⟨(Later.refl W).alloc _, hK _ _ ⟨W.heap.size, by simp [upd], ?_⟩⟩
        have := World.ownsRow_lit (e := 80) (size := 65) W #[] 0 LW.out.size (by simp [maxLen]) rfl
        simpa [upd] using this
      · obtain ⟨g, hg, ho⟩ := hdep 3 (by simp)
        rw [hg] at ho
        refine lVal_append_lit Try.elem_dirty Try.underlying23 z65_size (by decide) rfl rfl (.tmp 49) (.tmp 51) rfl w2.heap.size g ?_ ho LW.out.size _ k (dv D) rfl (RD.out.later LW.out) (dv_one _) (by omega) ?_
        · show vals 3 = _
          exact hg
        · intro v' w' h
          simpa [upd] using h
      · refine lVal_buildOne Try.elem_dirty Try.underlying23 z65_size (by decide) (by decide) rfl rfl (.tmp 55) rfl (.int .i64 (z : Int) :: bv X) rfl (by simp [bv_length, HX.out]) ?_
        intro h
        show Rw 65 _ (upd vals 10 _ 10) 1 (dv [((z : Int), X)])
        rw [upd_same, hdv.out]
        exact h
    case b4 =>
      intro vals W hl hall
      have LW := hide ((Later.refl w2).drew.trans hl)
      have h2 := hall 2 (by simp)
      have h6 := hall 6 (by simp)
      have h10 := hall 10 (by simp)
      have H2 : Hid (W.ownsRow w2.heap.size 50 64 (vals 2) n (bv F)) := h2
      have H6 : Hid (W.ownsRow w2.heap.size 80 65 (vals 6) k (dv D)) := h6
      have H10 : Hid (Rw 65 W (vals 10) 1 (dv [((z : Int), X)])) := h10
      clear h2 h6 h10 hall hl
      generalize hv2 : vals 2 = v2 at *
      generalize hv6 : vals 6 = v6 at *
      generalize hv10 : vals 10 = v10 at *
      refine wpL_append_rw Try.elem_dirty Try.underlying23 z65_size (by decide) rfl rfl (.tmp 52) (.tmp 56) rfl w2.heap.size v6 k (dv D) (by exact hv6) H6.out v10 1 _ (by exact hv10) H10.out (dv_one _) (by omega) (by unfold maxLen; omega) LW.out.size ?_
      intro v11 W1 ho11 hg11
      have L1 : Hid (Later w W1) := Below.grown (L5.out.trans LW.out) hg11 (L5.out.trans LW.out).size (fun j hj => Nat.le_trans L5.out.size (H6.out.lt j hj).1)
      have B1 := hide (box_grown (BR5.out.later LW.out) H6.out (by decide) hg11)
      have O2 := hide (owns_kept (w' := W1) H2.out fun j hj => hg11.block j (H2.out.lt j hj).2 (own_ne_own H2.out H6.out (by decide) j hj).symm)
      have O11 := hide ho11
      clear ho11 hg11 H2 H6 H10 LW
      obtain ⟨a2, c2, e2⟩ := (Rw.of_owns O2.out).shape
      subst e2
      obtain ⟨a11, c11, e11⟩ := (Rw.of_owns O11.out).shape
      subst e11
      have c0 := B1.out.cell 0
      have c1 := B1.out.cell 1
      have f0 := B1.out.frozen 0
      have f1 := B1.out.frozen 1
      refine wpL_cons rfl (fun K hK => ?_)
      simp only [putAll, List.foldl, dstOf]
      go_simp
      refine hK _ _ ?_
      clear hK K
      refine wpL_cons rfl (fun K hK => ?_)
      go_simp
      refine hK _ _ ?_
      clear hK K
      refine wpL_cons rfl (fun K hK => ?_)
      go_simp
      refine hK _ _ (wpL_nil ?_)
      clear hK K
      have hne : ∀ j, j ≠ w.heap.size + 1 + 1 → ((W1.setCell ⟨w.heap.size + 1 + 1, 0, none⟩ (.slice a2 n c2)).setCell ⟨w.heap.size + 1 + 1, 1, none⟩ (.slice a11 (k + 1) c11)).heap[j]? = W1.heap[j]? := fun j hj => by
        rw [heap_setCell_other _ _ _ _ (by simpa using hj), heap_setCell_other _ _ _ _ (by simpa using hj)]
      have BE : Hid (Box ((W1.setCell ⟨w.heap.size + 1 + 1, 0, none⟩ (.slice a2 n c2)).setCell ⟨w.heap.size + 1 + 1, 1, none⟩ (.slice a11 (k + 1) c11)) (w.heap.size + 1 + 1) 25 [.slice a2 n c2, .slice a11 (k + 1) c11]) := (B1.out.set 0 _).set 1 _
      have LE : Hid (Later w ((W1.setCell ⟨w.heap.size + 1 + 1, 0, none⟩ (.slice a2 n c2)).setCell ⟨w.heap.size + 1 + 1, 1, none⟩ (.slice a11 (k + 1) c11))) := (L1.out.setCell (by simp; omega) _).setCell (by simp; omega) _
      have ME : Hid (Med ((W1.setCell ⟨w.heap.size + 1 + 1, 0, none⟩ (.slice a2 n c2)).setCell ⟨w.heap.size + 1 + 1, 1, none⟩ (.slice a11 (k + 1) c11)) (.agg #[.slice a2 n c2, .slice a11 (k + 1) c11]) (wrN n D z) (wrF n F D z X false) (wrD n D z X false) ∧ ∀ g, g < w.heap.size → OffM g (.agg #[.slice a2 n c2, .slice a11 (k + 1) c11])) := by
        have e1 := owns_kept O2.out fun j hj => hne j (fun e => box_ne_own B1.out O2.out (by decide) j hj e.symm)
        have e2 := owns_kept O11.out fun j hj => hne j (fun e => box_ne_own B1.out O11.out (by decide) j hj e.symm)
        rw [show wrN n D z = n from by simp [wrN, hE.out], HF5.out, HD5.out]
        refine ⟨⟨_, _, rfl, Rw.of_owns e1, ?_, ?_⟩, fun g hg => ⟨_, _, rfl, owns_off O2.out (Nat.lt_of_lt_of_le hg L5.out.size), owns_off O11.out (Nat.lt_of_lt_of_le hg L5.out.size)⟩⟩
        · rw [dv_append, List.length_append, ← HK.out]
          exact Rw.of_owns e2
        · refine HO5.out.append fun d hd => ?_
          have : d = ((z : Int), X) := by simpa using hd
          subst this
          exact ⟨HX.out, by omega, by omega⟩
      clear c0 c1 f0 f1 hne B1 O2 O11 L1
      generalize ((W1.setCell ⟨w.heap.size + 1 + 1, 0, none⟩ (.slice a2 n c2)).setCell ⟨w.heap.size + 1 + 1, 1, none⟩ (.slice a11 (k + 1) c11)) = WE at *
      go_wp2
      exact bodyPost_ret (results_cell_tmp rfl _ _ _ (w.heap.size + 1 + 1) 0 rfl (.agg #[.slice a2 n c2, .slice a11 (k + 1) c11]) (.int .i64 0) (run_loadVar_mid _ _ _ _ [.slice a2 n c2, .slice a11 (k + 1) c11] _ BE.out.range Try.underlying25 rfl (by kernel_rfl)) rfl) rfl ⟨.agg #[.slice a2 n c2, .slice a11 (k + 1) c11], by rw [hE.out], LE.out, ME.out.1, ME.out.2⟩
theorem rwrite3_x {v : Value} {n : Nat} {F : List UInt8} {D : List Drt} (at_ : Int) (X : List UInt8) (th : Bool) (w : World) (h : Med w v n F D) (hX : X.length = 64) (ha : -9223372036854775808 ≤ at_) (ha' : at_ ≤ 9223372036854775807) :
    Calls Try.prog 59 #[v, .int .i64 at_, .agg (bv X).toArray, .bool th] w fun e w' => ∃ v', e = .returned (.tuple #[v', .int .i64 (wrE n D at_)]) ∧ Later w w' ∧ Med w' v' (wrN n D at_) (wrF n F D at_ X th) (wrD n D at_ X th) ∧ ∀ g, g < w.heap.size → OffM g v' := by
  cases th with
  | true => exact rwrite3_tx at_ X w h hX ha ha'
  | false => exact rwrite3_fx at_ X w h hX ha ha'
theorem rwrite3_c {v : Value} {n : Nat} {F : List UInt8} {D : List Drt} (at_ : Int) (X : List UInt8) (th : Bool) (w : World) (h : Med w v n F D) (hX : X.length = 64) (ha : -9223372036854775808 ≤ at_) (ha' : at_ ≤ 9223372036854775807) :
    Calls Try.prog 59 #[v, .int .i64 at_, .agg (bv X).toArray, .bool th] w fun e w' => ∃ v', e = .returned (.tuple #[v', .int .i64 (wrE n D at_)]) ∧ Later w w' ∧ Med w' v' (wrN n D at_) (wrF n F D at_ X th) (wrD n D at_ X th) :=
  (rwrite3_x at_ X th w h hX ha ha').mono fun _ _ ⟨v1, he, hl, hm, _⟩ => ⟨v1, he, hl, hm⟩
end Go.Proofs.Ytkbpecbpfajkfaa

namespace Go.Proofs.Ytkbpecbpfajkfaa
open Go.ChangeShapes Go.WideShapes Go.ChangeAt Go.RowKit
set_option linter.unusedVariables false
set_option linter.unusedSimpArgs false

section
variable {H : Type} {enc : TypeId × Value → H} {P : Program} {w : World} {r : Reach} {base : Nat} {t : TypeId} {v : Value} {d : DataW H} {p : List MemPlace}

theorem flatten_len {sz : Nat} (f : Nat → List Value) (hf : ∀ i, (f i).length = sz) : ∀ n : Nat, (((List.range n).map f).flatten).length = n * sz := by
  intro n
  induction n with
  | zero => simp
  | succ n ih => rw [List.range_succ, List.map_append, List.flatten_append, List.length_append, ih]; simp [hf, Nat.add_mul]
theorem flatten_get {sz : Nat} (f : Nat → List Value) (hf : ∀ i, (f i).length = sz) (hsz : 0 < sz) : ∀ (n j : Nat), j < n * sz → (((List.range n).map f).flatten)[j]? = (f (j / sz))[j % sz]? := by
  intro n
  induction n with
  | zero => intro j hj; simp at hj
  | succ n ih =>
    intro j hj
    rw [List.range_succ, List.map_append, List.flatten_append]
    have hl := flatten_len f hf n
    by_cases h : j < n * sz
    · rw [List.getElem?_append_left (by omega)]; exact ih j h
    · rw [List.getElem?_append_right (by omega), hl]
      have h1 : j < n * sz + sz := by rw [Nat.add_mul] at hj; omega
      have e1 : j / sz = n := by
        apply Nat.div_eq_of_lt_le
        · omega
        · rw [Nat.add_mul]; omega
      have e2 : j % sz = j - n * sz := by rw [Nat.mod_eq_sub_mul_div, e1, Nat.mul_comm]
      simp [e1, e2]

/-- A slice of whatever elements, S what the cells of one of them are. -/
theorem rd_rows {e : TypeId} {sz : Nat} (ht : P.underlying t = some (.slice e)) (hce : P.cellsOf e = sz) (hsz : 0 < sz) (S : List Value → Prop)
    (hS : ∀ fuel cs x, DataW.trod enc P w 0 (fun _ => true) true fuel e cs = some x → S cs) (hv : Value.okWide P w r base t v) (h : DataW.Trod enc P w 0 (fun _ => true) true t v d p) :
    ∃ css : List (List Value), (∀ cs ∈ css, S cs ∧ cs.length = sz) ∧ Rw sz w v css.length css.flatten := by
  obtain ⟨a, len, cap, rfl⟩ := okWide_slice ht hv
  obtain ⟨fuel, hf⟩ := h
  rcases Deep.open_slice ht hf with ⟨hcs, _⟩ | ⟨x, l, c, m, n, D, Pl, hcs, _, hl, hm, hmm, _, hel⟩
  · simp [Value.cells] at hcs
    obtain ⟨rfl, rfl, rfl⟩ := hcs
    exact ⟨[], by simp, Rw.nil _ _⟩
  · simp [Value.cells] at hcs
    obtain ⟨e1, e2, e3⟩ := hcs
    subst e1 e2 e3
    by_cases h0 : len = 0
    · subst h0
      exact ⟨[], by simp, by simp, by simp, some x, cap, rfl, by omega, .inl rfl⟩
    · have hmc : m = cap := by simpa using hmm
      subst hmc
      have hspot : x.spot = none := by
        obtain ⟨cs, h1, h2⟩ := hel 0 (by omega)
        rw [hce] at h1
        have hc := World.cells?_some h1
        have h3 := hc.2.2 0 hsz
        rw [List.getElem?_eq_getElem (by rw [hc.2.1]; exact hsz)] at h3
        have h4 := World.cell?_spot h3
        clear h3 hc h1 h2 hel hf
        obtain ⟨b, off, spot⟩ := x
        cases spot with
        | none => rfl
        | some q => simp [Addr.add] at h4
      obtain ⟨b, off, spot⟩ := x
      simp at hspot
      subst hspot
      have hch : ∀ i, ∃ cs : List Value, cs.length = sz ∧ (i < len → S cs ∧ ∀ j, j < sz → w.cell? ⟨b, off + (i * sz + j), none⟩ = cs[j]?) := by
        intro i
        by_cases hi : i < len
        · obtain ⟨cs, h1, h2⟩ := hel i (by omega)
          rw [hce] at h1
          have hc := World.cells?_some h1
          refine ⟨cs, hc.2.1, fun _ => ⟨hS _ _ _ h2, fun j hj => ?_⟩⟩
          rw [← hc.2.2 j hj, Addr.add_mid, Addr.add_mid, Nat.add_assoc]
        · exact ⟨List.replicate sz undef, by simp, fun h => absurd h hi⟩
      obtain ⟨f, hf'⟩ := Classical.axiomOfChoice hch
      have hfl := flatten_len f (fun i => (hf' i).1) len
      refine ⟨(List.range len).map f, ?_, ?_⟩
      · intro cs hcs
        obtain ⟨i, hi, rfl⟩ := List.mem_map.1 hcs
        exact ⟨((hf' i).2 (by simpa using hi)).1, (hf' i).1⟩
      · rw [show ((List.range len).map f).length = len from by simp]
        refine ⟨hfl, by omega, some ⟨b, off, none⟩, m, rfl, hl, .inr ⟨b, off, rfl, fun j u hu => ?_⟩⟩
        have hj : j < len * sz := by have := (List.getElem?_eq_some_iff.1 hu).1; omega
        rw [flatten_get f (fun i => (hf' i).1) hsz len j hj] at hu
        have hd : j / sz < len := Nat.div_lt_of_lt_mul (by rw [Nat.mul_comm]; exact hj)
        have := ((hf' (j / sz)).2 hd).2 (j % sz) (Nat.mod_lt _ hsz)
        rw [← hu, ← this]
        congr 3
        have := Nat.div_add_mod j sz
        rw [Nat.mul_comm] at this
        omega

/-- An array of bytes, as cells. -/
theorem shape_bytes {n : Nat} {e : TypeId} (ht : P.underlying t = some (.array n e)) (he : P.underlying e = some (.int .u8)) (hc : P.cellsOf e = 1) (hct : P.cellsOf t = n) (fuel : Nat) (cs : List Value) (x : DataW H × List MemPlace)
    (h : DataW.trod enc P w 0 (fun _ => true) true fuel t cs = some x) : ∃ X : List UInt8, X.length = n ∧ cs = bv X := by
  obtain ⟨xs, m, _, _, hl, hxs, hall⟩ := DataW.trod_array ht h
  rw [hct] at hl
  have hget : ∀ i, i < n → ∃ b : UInt8, cs[i]? = some (.int .u8 (b.toNat : Int)) := by
    intro i hi
    have h1 := hall i hi
    rw [hc, Nat.mul_one] at h1
    have h2 : (List.drop i cs).take 1 = [cs[i]'(by omega)] := by
      rw [List.drop_eq_getElem_cons (by omega), List.take_succ_cons, List.take_zero]
    rw [h2, List.getElem?_eq_getElem (by omega)] at h1
    obtain ⟨z, e0, _, wz⟩ := DataW.trod_int he h1
    simp at e0
    have hb := bounds_u8 wz
    obtain ⟨y, rfl⟩ := Int.eq_ofNat_of_zero_le hb.1
    refine ⟨UInt8.ofNat y, ?_⟩
    rw [List.getElem?_eq_getElem (by omega), e0, UInt8.toNat_ofNat']
    congr 3
    omega
  have hch : ∀ i, ∃ b : UInt8, i < n → cs[i]? = some (.int .u8 (b.toNat : Int)) := fun i => by
    by_cases hi : i < n
    · obtain ⟨b, hb⟩ := hget i hi; exact ⟨b, fun _ => hb⟩
    · exact ⟨0, fun h => absurd h hi⟩
  obtain ⟨f, hf⟩ := Classical.axiomOfChoice hch
  refine ⟨(List.range n).map f, by simp, ?_⟩
  apply List.ext_getElem?
  intro i
  by_cases hi : i < n
  · rw [hf i hi]; simp [bv, hi]
  · rw [List.getElem?_eq_none (by omega), List.getElem?_eq_none (by simp [bv]; omega)]
end

theorem bv_flatten : ∀ css : List (List Value), (∀ cs ∈ css, ∃ X : List UInt8, X.length = 64 ∧ cs = bv X) → ∃ F : List UInt8, css.flatten = bv F
  | [], _ => ⟨[], rfl⟩
  | c :: css, h => by
    obtain ⟨X, _, rfl⟩ := h c (by simp)
    obtain ⟨F, hF⟩ := bv_flatten css (fun cs hcs => h cs (by simp [hcs]))
    exact ⟨X ++ F, by rw [List.flatten_cons, hF, bv_append]⟩

/-- A store that comes in. -/
def RBlocks (w : World) (v : Value) : Prop := ∃ n F, Rw 64 w v n (bv F)
theorem rd_blocks {H : Type} {enc : TypeId × Value → H} {w : World} {r : Reach} {base : Nat} {v : Value} {d : DataW H} {p : List MemPlace} (hv : Value.okWide Try.prog w r base 22 v) (h : DataW.Trod enc Try.prog w 0 (fun _ => true) true 22 v d p) : RBlocks w v := by
  obtain ⟨css, h1, h2⟩ := rd_rows Try.underlying22 (sz := 64) (by kernel_rfl) (by decide) (fun cs => ∃ X : List UInt8, X.length = 64 ∧ cs = bv X) (fun fuel cs x hx => shape_bytes Try.underlying50 Try.underlying5 (by kernel_rfl) (by kernel_rfl) fuel cs x hx) hv h
  obtain ⟨F, hF⟩ := bv_flatten css (fun cs hcs => (h1 cs hcs).1)
  rw [hF] at h2
  exact ⟨_, F, h2⟩
end Go.Proofs.Ytkbpecbpfajkfaa

namespace Go.Proofs.Ytkbpecbpfajkfaa
open Go.ChangeShapes Go.WideShapes Go.ChangeAt Go.RowKit
set_option linter.unusedVariables false
set_option linter.unusedSimpArgs false

/-! Structs that come in, whatever is in them. -/
section
variable {H : Type} {enc : TypeId × Value → H} {P : Program} {w : World} {t : TypeId}

/-- A slice of whatever elements, as cells. -/
theorem shape_rows {e : TypeId} {sz : Nat} (ht : P.underlying t = some (.slice e)) (hce : P.cellsOf e = sz) (hsz : 0 < sz) (S : List Value → Prop)
    (hS : ∀ fuel cs x, DataW.trod enc P w 0 (fun _ => true) true fuel e cs = some x → S cs) (fuel : Nat) (cs : List Value) (x : DataW H × List MemPlace) (hf : DataW.trod enc P w 0 (fun _ => true) true fuel t cs = some x) :
    ∃ (v : Value) (css : List (List Value)), cs = [v] ∧ (∀ c ∈ css, S c ∧ c.length = sz) ∧ Rw sz w v css.length css.flatten := by
  rcases Deep.open_slice ht hf with ⟨rfl, _⟩ | ⟨x, len, cap, m, n, D, Pl, rfl, _, hl, hm, hmm, _, hel⟩
  · exact ⟨_, [], rfl, by simp, Rw.nil _ _⟩
  · by_cases h0 : len = 0
    · subst h0
      exact ⟨_, [], rfl, by simp, by simp, by simp, some x, cap, rfl, by omega, .inl rfl⟩
    · have hmc : m = cap := by simpa using hmm
      subst hmc
      have hspot : x.spot = none := by
        obtain ⟨cs, h1, h2⟩ := hel 0 (by omega)
        rw [hce] at h1
        have hc := World.cells?_some h1
        have h3 := hc.2.2 0 hsz
        rw [List.getElem?_eq_getElem (by rw [hc.2.1]; exact hsz)] at h3
        have h4 := World.cell?_spot h3
        clear h3 hc h1 h2 hel hf
        obtain ⟨b, off, spot⟩ := x
        cases spot with
        | none => rfl
        | some q => simp [Addr.add] at h4
      obtain ⟨b, off, spot⟩ := x
      simp at hspot
      subst hspot
      have hch : ∀ i, ∃ cs : List Value, cs.length = sz ∧ (i < len → S cs ∧ ∀ j, j < sz → w.cell? ⟨b, off + (i * sz + j), none⟩ = cs[j]?) := by
        intro i
        by_cases hi : i < len
        · obtain ⟨cs, h1, h2⟩ := hel i (by omega)
          rw [hce] at h1
          have hc := World.cells?_some h1
          refine ⟨cs, hc.2.1, fun _ => ⟨hS _ _ _ h2, fun j hj => ?_⟩⟩
          rw [← hc.2.2 j hj, Addr.add_mid, Addr.add_mid, Nat.add_assoc]
        · exact ⟨List.replicate sz undef, by simp, fun h => absurd h hi⟩
      obtain ⟨f, hf'⟩ := Classical.axiomOfChoice hch
      have hfl := flatten_len f (fun i => (hf' i).1) len
      refine ⟨_, (List.range len).map f, rfl, ?_, ?_⟩
      · intro cs hcs
        obtain ⟨i, hi, rfl⟩ := List.mem_map.1 hcs
        exact ⟨((hf' i).2 (by simpa using hi)).1, (hf' i).1⟩
      · rw [show ((List.range len).map f).length = len from by simp]
        refine ⟨hfl, by omega, some ⟨b, off, none⟩, m, rfl, hl, .inr ⟨b, off, rfl, fun j u hu => ?_⟩⟩
        have hj : j < len * sz := by have := (List.getElem?_eq_some_iff.1 hu).1; omega
        rw [flatten_get f (fun i => (hf' i).1) hsz len j hj] at hu
        have hd : j / sz < len := Nat.div_lt_of_lt_mul (by rw [Nat.mul_comm]; exact hj)
        have := ((hf' (j / sz)).2 hd).2 (j % sz) (Nat.mod_lt _ hsz)
        rw [← hu, ← this]
        congr 3
        have := Nat.div_add_mod j sz
        rw [Nat.mul_comm] at this
        omega
/-- A field of a struct, as cells. -/
theorem shape_field {fs : Array Field} {L : List (TypeId × Nat)} (ht : P.underlying t = some (.struct fs)) (hL : fs.toList.map (fun f => (f.type, f.offset)) = L) (i : Nat) (ty : TypeId) (off : Nat) (hi : L[i]? = some (ty, off))
    {fuel : Nat} {cs : List Value} {x : DataW H × List MemPlace} (h : DataW.trod enc P w 0 (fun _ => true) true fuel t cs = some x) : cs.length = P.cellsOf t ∧ ∃ m y, DataW.trod enc P w 0 (fun _ => true) true m ty ((cs.drop off).take (P.cellsOf ty)) = some y := by
  obtain ⟨xs, n, _, _, hl, hxs, hall⟩ := DataW.trod_struct ht h
  rw [← hL, List.getElem?_map, Option.map_eq_some_iff] at hi
  obtain ⟨f, hf, he⟩ := hi
  simp only [Prod.mk.injEq] at he
  obtain ⟨rfl, rfl⟩ := he
  have hlt : i < fs.size := by have := (List.getElem?_eq_some_iff.1 hf).1; simpa using this
  have := hall i f (by simpa using hf)
  rw [List.getElem?_eq_getElem (by omega)] at this
  exact ⟨hl, n, _, this⟩
theorem shape_int {k : IntKind} (ht : P.underlying t = some (.int k)) {fuel : Nat} {cs : List Value} {x : DataW H × List MemPlace} (h : DataW.trod enc P w 0 (fun _ => true) true fuel t cs = some x) : ∃ n : Int, cs = [.int k n] ∧ (Lit.int k n).wf = true := by
  obtain ⟨n, h1, _, h2⟩ := DataW.trod_int ht h
  exact ⟨n, h1, h2⟩
theorem shape_u8 (ht : P.underlying t = some (.int .u8)) {fuel : Nat} {cs : List Value} {x : DataW H × List MemPlace} (h : DataW.trod enc P w 0 (fun _ => true) true fuel t cs = some x) : ∃ c : UInt8, cs = [.int .u8 (c.toNat : Int)] := by
  obtain ⟨n, h1, h2⟩ := shape_int ht h
  have hx := bounds_u8 h2
  obtain ⟨y, rfl⟩ := Int.eq_ofNat_of_zero_le hx.1
  refine ⟨UInt8.ofNat y, ?_⟩
  rw [h1, UInt8.toNat_ofNat']
  congr 3
  omega
theorem shape_bool (ht : P.underlying t = some .bool) {fuel : Nat} {cs : List Value} {x : DataW H × List MemPlace} (h : DataW.trod enc P w 0 (fun _ => true) true fuel t cs = some x) : ∃ b : Bool, cs = [.bool b] := by
  obtain ⟨b, h1, _⟩ := DataW.trod_bool ht h
  exact ⟨b, h1⟩
end
theorem agg_of {cs : Array Value} {l : List Value} (h : cs.toList = l) : Value.agg cs = .agg l.toArray := by rw [← h]
theorem two_cells {cs : List Value} {a b : Value} (h : cs.length = 2) (h0 : (cs.drop 0).take 1 = [a]) (h1 : (cs.drop 1).take 1 = [b]) : cs = [a, b] := by
  match cs, h with
  | [x, y], _ => simp at h0 h1; rw [h0, h1]

section
variable {H : Type} {enc : TypeId × Value → H} {w : World} {r : Reach} {base : Nat} {v : Value} {d : DataW H} {p : List MemPlace}
theorem Try.is_medium : Try.prog.underlying 25 = some (.struct (Try.prog.fieldsOf 25)) := by kernel_rfl
theorem Try.fields_medium : (Try.prog.fieldsOf 25).toList.map (fun f => (f.type, f.offset)) = [(22, 0), (23, 1)] := by kernel_rfl
theorem Try.offs_dirty : (Try.prog.fieldsOf 80).toList.map (fun f => (f.type, f.offset)) = [(3, 0), (50, 1)] := by kernel_rfl
theorem shape_dirty (fuel : Nat) (cs : List Value) (x : DataW H × List MemPlace) (h : DataW.trod enc Try.prog w 0 (fun _ => true) true fuel 80 cs = some x) : ∃ D : Drt, (D.2.length = 64 ∧ -9223372036854775808 ≤ D.1 ∧ D.1 ≤ 9223372036854775807) ∧ cs = .int .i64 D.1 :: bv D.2 := by
  obtain ⟨hl, m0, y0, h0⟩ := shape_field Try.is_dirty Try.offs_dirty 0 _ _ rfl h
  obtain ⟨_, m1, y1, h1⟩ := shape_field Try.is_dirty Try.offs_dirty 1 _ _ rfl h
  rw [show Try.prog.cellsOf 80 = 65 from by kernel_rfl] at hl
  rw [show Try.prog.cellsOf 3 = 1 from by kernel_rfl] at h0
  rw [show Try.prog.cellsOf 50 = 64 from by kernel_rfl] at h1
  obtain ⟨n, hn, wn⟩ := shape_int Try.underlying3 h0
  obtain ⟨X, hX, hx⟩ := shape_bytes Try.underlying50 Try.underlying5 (by kernel_rfl) (by kernel_rfl) _ _ _ h1
  refine ⟨(n, X), ⟨hX, bounds_i64 wn⟩, ?_⟩
  have e2 : (cs.drop 1).take 64 = cs.drop 1 := List.take_of_length_le (by simp; omega)
  rw [e2] at hx
  match cs, hl with
  | c :: cs, _ =>
    simp at hn hx
    rw [hn, hx]
theorem dv_flatten : ∀ css : List (List Value), (∀ cs ∈ css, ∃ D : Drt, (D.2.length = 64 ∧ -9223372036854775808 ≤ D.1 ∧ D.1 ≤ 9223372036854775807) ∧ cs = .int .i64 D.1 :: bv D.2) → ∃ D : List Drt, D.length = css.length ∧ Ok D ∧ css.flatten = dv D
  | [], _ => ⟨[], rfl, (fun d hd => by cases hd), rfl⟩
  | c :: css, h => by
    obtain ⟨X, hX, rfl⟩ := h c (by simp)
    obtain ⟨D, h1, h2, h3⟩ := dv_flatten css (fun cs hcs => h cs (by simp [hcs]))
    refine ⟨X :: D, by simp [h1], fun d hd => ?_, by rw [List.flatten_cons, h3, dv_cons]⟩
    rcases List.mem_cons.1 hd with rfl | hd
    · exact hX
    · exact h2 d hd
/-- the cells of a medium -/
theorem shape_medium (fuel : Nat) (cs : List Value) (x : DataW H × List MemPlace) (h : DataW.trod enc Try.prog w 0 (fun _ => true) true fuel 25 cs = some x) : ∃ vb vd n F D, cs = [vb, vd] ∧ Rw 64 w vb n (bv F) ∧ Rw 65 w vd D.length (dv D) ∧ Ok D := by
  obtain ⟨hl, m0, y0, h0⟩ := shape_field Try.is_medium Try.fields_medium 0 _ _ rfl h
  obtain ⟨_, m1, y1, h1⟩ := shape_field Try.is_medium Try.fields_medium 1 _ _ rfl h
  rw [show Try.prog.cellsOf 25 = 2 from by kernel_rfl] at hl
  rw [show Try.prog.cellsOf 22 = 1 from by kernel_rfl] at h0
  rw [show Try.prog.cellsOf 23 = 1 from by kernel_rfl] at h1
  obtain ⟨vb, css, e0, k0, r0⟩ := shape_rows Try.underlying22 (sz := 64) (by kernel_rfl) (by decide) (fun cs => ∃ X : List UInt8, X.length = 64 ∧ cs = bv X) (fun fuel cs x hx => shape_bytes Try.underlying50 Try.underlying5 (by kernel_rfl) (by kernel_rfl) fuel cs x hx) _ _ _ h0
  obtain ⟨vd, dss, e1, k1, r1⟩ := shape_rows Try.underlying23 (sz := 65) (by kernel_rfl) (by decide) (fun cs => ∃ D : Drt, (D.2.length = 64 ∧ -9223372036854775808 ≤ D.1 ∧ D.1 ≤ 9223372036854775807) ∧ cs = .int .i64 D.1 :: bv D.2) (fun fuel cs x hx => shape_dirty fuel cs x hx) _ _ _ h1
  obtain ⟨F, hF⟩ := bv_flatten css (fun cs hcs => (k0 cs hcs).1)
  obtain ⟨D, hD, hok, hDf⟩ := dv_flatten dss (fun cs hcs => (k1 cs hcs).1)
  rw [hF] at r0
  rw [hDf, ← hD] at r1
  exact ⟨vb, vd, css.length, F, D, two_cells hl e0 e1, r0, r1, hok⟩
def RMed (w : World) (v : Value) : Prop := ∃ n F D, Med w v n F D
theorem rd_medium (hv : Value.okWide Try.prog w r base 25 v) (h : DataW.Trod enc Try.prog w 0 (fun _ => true) true 25 v d p) : RMed w v := by
  obtain ⟨cs, rfl, _⟩ := okWide_struct Try.is_medium hv
  obtain ⟨fuel, hf⟩ := h
  obtain ⟨vb, vd, n, F, D, e, h1, h2, h3⟩ := shape_medium _ _ _ hf
  refine ⟨n, F, D, vb, vd, ?_, h1, h2, h3⟩
  rw [agg_of (show cs.toList = [vb, vd] from e)]

def RWrite3 (v : Value) : Prop := ∃ (X : List UInt8) (b : Bool), X.length = 64 ∧ v = .agg (bv X ++ [Value.bool b]).toArray
def RLoss (v : Value) : Prop := ∃ (c : UInt8) (m : Nat), m ≤ 18446744073709551615 ∧ v = .agg #[.int .u8 (c.toNat : Int), .int .u64 (m : Int)]
end
end Go.Proofs.Ytkbpecbpfajkfaa
