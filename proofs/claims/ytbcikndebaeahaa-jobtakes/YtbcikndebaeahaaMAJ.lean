import Derived.Test.YtbcikndebaeahaaMAI
import Derived.Test.YtbcikndebaeahaaMAD
import Derived.Test.YtbcikndebaeahaaMAG
import Derived.Test.YtbcikndebaeahaaMAE
namespace Go.Proofs.Ytbcikndebaeahaa
open Go.ChangeShapes Go.WideShapes Go.ChangeAt Go.RowKit
set_option linter.unusedVariables false
set_option maxRecDepth 4000
set_option linter.unusedSimpArgs false
set_option maxRecDepth 20000 in
set_option maxHeartbeats 1000000 in
theorem rwrite3_fx {v : Value} {n : Nat} {F : List UInt8} {D : List Drt} (at_ : Int) (X : List UInt8) (w : World) (h : Med w v n F D) (hX : X.length = 64) (ha : -9223372036854775808 ≤ at_) (ha' : at_ ≤ 9223372036854775807) :
    Calls Try.prog 59 #[v, .int .i64 at_, .agg (bv X).toArray, .bool false] w fun e w' => ∃ v', e = .returned (.tuple #[v', .int .i64 (wrE n D at_)]) ∧ Later w w' ∧ Med w' v' (wrN n D at_) (wrF n F D at_ X false) (wrD n D at_ X false) ∧ ∀ g, g < w.heap.size → OffM g v' := by
  have HM := hide h
  obtain ⟨vb, vd, rfl, hb, hd, hok⟩ := h
  obtain ⟨ab, cb, rfl⟩ := hb.shape
  obtain ⟨k, hk⟩ : ∃ k, k = D.length := ⟨_, rfl⟩
  rw [← hk] at hd
  obtain ⟨aD, cD, rfl⟩ := hd.shape
  have hnm := hb.2.1
  have hkm := hd.2.1
  unfold maxLen at hnm hkm
  have HB := hide hb
  have HD := hide hd
  have HO := hide hok
  have HK := hide hk
  have HX := hide hX
  clear hb hd hk hok hX
  go_enter Try.func59, Try.ntmps59
  go_wp2_with fail
  refine (rright_c _ (HM.out.later ((((Later.refl w).alloc _).alloc _).alloc _))).mono ?_
  rintro e w2 ⟨rfl, hl2⟩
  have L2 : Hid (Later w w2) := Later.trans ((((Later.refl w).alloc _).alloc _).alloc _) hl2
  have BX : Hid (Box w2 w.heap.size 25 [.slice ab n cb, .slice aD k cD]) := Box.later ((Box.new w 25 #[.slice ab n cb, .slice aD k cD]).alloc _ |>.alloc _) hl2
  have BR : Hid (Box w2 (w.heap.size + 1 + 1) 25 [.slice none 0 0, .slice none 0 0]) := Box.later (Box.new' _ _ _ _ rfl _ (by simp)) hl2
  have BD : Hid (Box w2 (w.heap.size + 1) 58 (bv X)) := Box.later ((Box.new' _ _ _ _ (by simp) _ (by simp)).alloc _) hl2
  clear hl2
  have d0 := BX.out.cell 0
  have d1 := BX.out.cell 1
  have r0 := BR.out.cell 0
  have r1 := BR.out.cell 1
  have f0 := BR.out.frozen 0
  have f1 := BR.out.frozen 1
  have BZ : Hid (Box ((w2.setCell ⟨w.heap.size + 1 + 1, 0, none⟩ (.slice none 0 0)).setCell ⟨w.heap.size + 1 + 1, 1, none⟩ (.slice none 0 0)) (w.heap.size + 1 + 1) 25 [.slice none 0 0, .slice none 0 0]) := (BR.out.set 0 _).set 1 _
  have LZ : Hid (Later w ((w2.setCell ⟨w.heap.size + 1 + 1, 0, none⟩ (.slice none 0 0)).setCell ⟨w.heap.size + 1 + 1, 1, none⟩ (.slice none 0 0))) := (L2.out.setCell (by simp; omega) _).setCell (by simp; omega) _
  by_cases hR : rightB n D = true
  case neg =>
    have hR' : rightB n D = false := by simpa using hR
    rw [hR']
    go_wp2
    refine bodyPost_ret (results_cell_tmp rfl _ _ _ (w.heap.size + 1 + 1) 0 rfl (.agg #[.slice none 0 0, .slice none 0 0]) (.int .i64 1) (run_loadVar_mid _ _ _ _ [.slice none 0 0, .slice none 0 0] _ BZ.out.range Try.underlying25 rfl (by kernel_rfl)) rfl) rfl ⟨.agg #[.slice none 0 0, .slice none 0 0], ?_, LZ.out, ?_, fun g _ => ⟨_, _, rfl, trivial, trivial⟩⟩
    · simp [wrE, hR']
    · simpa [wrE, wrN, wrF, wrD, hR'] using Med.nil _
  rw [hR]
  by_cases hin : 0 ≤ at_ ∧ at_ < n
  case neg =>
    have hE : Hid (wrE n D at_ = 5) := by simp only [Hid, wrE, hR, if_true, if_neg hin]
    by_cases c1 : at_ < 0
    · go_wp2
      refine bodyPost_ret (results_cell_tmp rfl _ _ _ (w.heap.size + 1 + 1) 0 rfl (.agg #[.slice none 0 0, .slice none 0 0]) (.int .i64 5) (run_loadVar_mid _ _ _ _ [.slice none 0 0, .slice none 0 0] _ BZ.out.range Try.underlying25 rfl (by kernel_rfl)) rfl) rfl ⟨.agg #[.slice none 0 0, .slice none 0 0], by rw [hE.out], LZ.out, ?_, fun g _ => ⟨_, _, rfl, trivial, trivial⟩⟩
      simpa [wrN, wrF, wrD, hE.out] using Med.nil _
    · have c3 : (n : Int) ≤ at_ := by omega
      go_wp2
      refine bodyPost_ret (results_cell_tmp rfl _ _ _ (w.heap.size + 1 + 1) 0 rfl (.agg #[.slice none 0 0, .slice none 0 0]) (.int .i64 5) (run_loadVar_mid _ _ _ _ [.slice none 0 0, .slice none 0 0] _ BZ.out.range Try.underlying25 rfl (by kernel_rfl)) rfl) rfl ⟨.agg #[.slice none 0 0, .slice none 0 0], by rw [hE.out], LZ.out, ?_, fun g _ => ⟨_, _, rfl, trivial, trivial⟩⟩
      simpa [wrN, wrF, wrD, hE.out] using Med.nil _
  have hE : Hid (wrE n D at_ = 0) := by simp only [Hid, wrE, hR, if_true, if_pos hin]
  have hR2 := hR
  simp only [rightB, decide_eq_true_eq] at hR2
  have hn64 := hR2.1
  have hk64 : k ≤ 64 := by have := hR2.2.1; have := HK.out; omega
  have HFit := hide (fit_of_right hR HO.out)
  obtain ⟨z, rfl⟩ := Int.eq_ofNat_of_zero_le hin.1
  have hzn : z < n := by omega
  have c1 : ¬ (z : Int) < 0 := by omega
  have c3 : ¬ (n : Int) ≤ (z : Int) := by omega
  clear hin hR2 hR BZ LZ
  by_cases hk6 : k = 64
  · have hkq : ((k : Int) == 64) = true := by simp; omega
    have HK6 := hide hk6
    clear hk6
    go_wp2_with fail
    refine (rflushed_c 0 (n : Int) w2 (HM.out.later L2.out) hn64 (by have := HK.out; omega) HFit.out).mono ?_
    rintro e w3 ⟨vb, vd, rfl, hl3, h1, h2⟩
    have L3 := hide (L2.out.trans hl3)
    have BX3 := hide (Box.later BX.out hl3)
    have BR3 := hide (Box.later BR.out hl3)
    have BD3 := hide (Box.later BD.out hl3)
    have hs2 : w.heap.size + 1 + 1 < w2.heap.size := BR.out.lt
    obtain ⟨g, c3, e, hg⟩ := owns_head h1 (by omega)
    subst e
    obtain ⟨m6, hm6⟩ : ∃ m6, m6 = (D.filter fun d => !inR 0 (n : Int) d).length := ⟨_, rfl⟩
    rw [← hm6] at h2
    have HM6 := hide hm6
    have hm64 : m6 ≤ 64 := by
      have := List.length_filter_le (fun d => !inR 0 (n : Int) d) D
      have := HK.out
      omega
    clear hm6
    obtain ⟨a6, c6, rfl⟩ := (Rw.of_owns h2).shape
    have c0 := BX3.out.cell 0
    have c1 := BX3.out.cell 1
    have g0 := BX3.out.frozen 0
    have g1 := BX3.out.frozen 1
    have hne : ∀ j, j ≠ w.heap.size → ((w3.setCell ⟨w.heap.size, 0, none⟩ (.slice (some ⟨g, 0, none⟩) n c3)).setCell ⟨w.heap.size, 1, none⟩ (.slice a6 m6 c6)).heap[j]? = w3.heap[j]? := fun j hj => by
      rw [heap_setCell_other _ _ _ _ (by simpa using hj), heap_setCell_other _ _ _ _ (by simpa using hj)]
    have L5 : Hid (Later w ((w3.setCell ⟨w.heap.size, 0, none⟩ (.slice (some ⟨g, 0, none⟩) n c3)).setCell ⟨w.heap.size, 1, none⟩ (.slice a6 m6 c6))) := (L3.out.setCell (by simp) _).setCell (by simp) _
    have BX5 : Hid (Box ((w3.setCell ⟨w.heap.size, 0, none⟩ (.slice (some ⟨g, 0, none⟩) n c3)).setCell ⟨w.heap.size, 1, none⟩ (.slice a6 m6 c6)) w.heap.size 25 [.slice (some ⟨g, 0, none⟩) n c3, .slice a6 m6 c6]) := (BX3.out.set 0 _).set 1 _
    have BR5 := hide (BR3.out.kept (hne (w.heap.size + 1 + 1) (by omega)))
    have BD5 := hide (BD3.out.kept (hne (w.heap.size + 1) (by omega)))
    have RB := hide (Rw.of_owns (owns_kept h1 fun j hj => hne j (fun e => box_ne_own BX3.out h1 (by decide) j hj e.symm)))
    have RD := hide (Rw.of_owns (owns_kept h2 fun j hj => hne j (fun e => box_ne_own BX3.out h2 (by decide) j hj e.symm)))
    have HF5 : Hid (wrF n F D z X false = app F (D.filter (inR 0 (n : Int)))) := by
      have h1 := HK.out
      have h2 := HK6.out
      simp [Hid, wrF, hE.out]
      intro h3; omega
    have HD5 : Hid (wrD n D z X false = D.filter (fun d => !inR 0 (n : Int) d) ++ [((z : Int), X)]) := by
      have h1 := HK.out
      have h2 := HK6.out
      simp [Hid, wrD, hE.out]
      intro h3; omega
    have HO5 := hide (HO.out.filter (fun d => !inR 0 (n : Int) d))
    have hk65 := hm64
    clear L2 BX BR BD d0 d1 r0 r1 f0 f1 h1 h2 hl3 L3 BX3 BR3 BD3 hne
    go_wp2_with fail
    generalize ((w3.setCell ⟨w.heap.size, 0, none⟩ (.slice (some ⟨g, 0, none⟩) n c3)).setCell ⟨w.heap.size, 1, none⟩ (.slice a6 m6 c6)) = w5 at *
    clear c0 c1 g0 g1
    generalize app F (D.filter (inR 0 (n : Int))) = F5 at *
    generalize D.filter (fun d => !inR 0 (n : Int) d) = D5 at *
    have hc0 := fun r => (Box.later BX5.out ((Later.refl w5).drew.trans (later_rg w5.drew r))).cell 0
    have hc1 := fun r => (Box.later BX5.out ((Later.refl w5).drew.trans (later_rg w5.drew r))).cell 1
    refine wp_region_tree [0, 1, 4, 5, 7, 8, 9] [2, 3, 6, 10] [11, 12, 13, 14] (by kernel_rfl) (by kernel_rfl) (by kernel_rfl) (by kernel_rfl) ?_
    iterate 5 (refine wpT_mild rfl (fun K hK => ?_); go_simp; refine hK _ ?_; clear hK K)
    refine wpT_loadG rfl rfl 58 (.tmp 6) rfl (w.heap.size + 1) 0 rfl (bv X) _ ((World.rangeAt_drew _ _ _ _).2 BD5.out.range) Try.underlying58 rfl (by rw [Try.info_block, bv_length, HX.out]) ?_
    refine wpT_mild rfl (fun K hK => ?_)
    go_simp
    rw [dirty_build (.int .i64 (z : Int)) (bv X) _ ?hZ (by rw [bv_length, HX.out])]
    case hZ => first | exact zc65_size | rfl
    refine ⟨_, fun p => ⟨rfl, rfl⟩, hK _ ?_⟩
    clear hK K hc0 hc1
    have hdv : Hid (dv [((z : Int), X)] = .int .i64 (z : Int) :: bv X) := by simp [Hid, dv]
    refine wpT_bag (fun i => match i with | 6 => [2, 3] | _ => []) (fun i vals W => match i with
      | 2 => W.ownsRow w5.heap.size 58 64 (vals 2) n (bv F5)
      | 3 => ∃ g, vals 3 = .slice (some ⟨g, 0, none⟩) 0 0 ∧ W.ownsRow w5.heap.size 79 65 (vals 3) 0 []
      | 6 => W.ownsRow w5.heap.size 79 65 (vals 6) m6 (dv D5)
      | 10 => Rw 65 W (vals 10) 1 (dv [((z : Int), X)])
      | _ => True) (by kernel_rfl) ?b1 ?b2 ?b3 ?b4
    case b1 =>
      intro i hi vals W W' hl h
      simp only [List.mem_cons, List.not_mem_nil, or_false] at hi
      rcases hi with rfl | rfl | rfl | rfl
      · exact owns_later h hl
      · obtain ⟨g, h1, h2⟩ := h; exact ⟨g, h1, owns_later h2 hl⟩
      · exact owns_later h hl
      · exact Rw.later h hl
    case b2 =>
      intro i hi k hk hne hds vals v W h
      simp only [List.mem_cons, List.not_mem_nil, or_false] at hi hk
      rcases hi with rfl | rfl | rfl | rfl <;> rcases hk with rfl | rfl | rfl | rfl <;> first | (exact absurd rfl hne) | (simpa [upd] using h) | (simp at hds)
    case b3 =>
      intro i hi vals W hl hdep
      have LW := hide ((Later.refl w5).drew.trans hl)
      simp only [List.mem_cons, List.not_mem_nil, or_false] at hi
      rcases hi with rfl | rfl | rfl | rfl
      · refine lVal_step rfl (fun K hK => ?_)
        simp only [putAll, List.foldl]
        go_simp
        refine (rcopy_c W W.heap.size (Nat.le_refl _) (RB.out.later LW.out) (by omega)).mono ?_
        rintro e w3 ⟨v3, rfl, hl3, ho3⟩
        exact ⟨v3, rfl, hl3, hK _ _ (by simpa [upd] using owns_rebase ho3 LW.out.size)⟩
      · refine lVal_step rfl (fun K hK => ?_)
        simp only [putAll, List.foldl]
        go_simp
        refine ⟨(Later.refl W).alloc _, hK _ _ ⟨W.heap.size, by simp [upd], ?_⟩⟩
        have := World.ownsRow_lit (e := 79) (size := 65) W #[] 0 LW.out.size (by simp [maxLen]) rfl
        simpa [upd] using this
      · obtain ⟨g, hg, ho⟩ := hdep 3 (by simp)
        rw [hg] at ho
        refine lVal_append_lit Try.elem_dirty Try.underlying23 z65_size (by decide) rfl rfl (.tmp 49) (.tmp 51) rfl w5.heap.size g ?_ ho LW.out.size _ m6 (dv D5) rfl (RD.out.later LW.out) (dv_one _) (by omega) ?_
        · show vals 3 = _
          exact hg
        · intro v' w' h
          simpa [upd] using h
      · refine lVal_buildOne Try.elem_dirty Try.underlying23 z65_size (by decide) (by decide) rfl rfl (.tmp 55) rfl (.int .i64 (z : Int) :: bv X) rfl (by simp [bv_length, HX.out]) ?_
        intro h
        show Rw 65 _ (upd vals 10 _ 10) 1 (dv [((z : Int), X)])
        rw [upd_same, hdv.out]
        exact h
    case b4 =>
      intro vals W hl hall
      have LW := hide ((Later.refl w5).drew.trans hl)
      have h2 := hall 2 (by simp)
      have h6 := hall 6 (by simp)
      have h10 := hall 10 (by simp)
      have H2 : Hid (W.ownsRow w5.heap.size 58 64 (vals 2) n (bv F5)) := h2
      have H6 : Hid (W.ownsRow w5.heap.size 79 65 (vals 6) m6 (dv D5)) := h6
      have H10 : Hid (Rw 65 W (vals 10) 1 (dv [((z : Int), X)])) := h10
      clear h2 h6 h10 hall hl
      generalize hv2 : vals 2 = v2 at *
      generalize hv6 : vals 6 = v6 at *
      generalize hv10 : vals 10 = v10 at *
      refine wpL_append_rw Try.elem_dirty Try.underlying23 z65_size (by decide) rfl rfl (.tmp 52) (.tmp 56) rfl w5.heap.size v6 m6 (dv D5) (by exact hv6) H6.out v10 1 _ (by exact hv10) H10.out (dv_one _) (by omega) (by unfold maxLen; omega) LW.out.size ?_
      intro v11 W1 ho11 hg11
      have L1 : Hid (Later w W1) := Below.grown (L5.out.trans LW.out) hg11 (L5.out.trans LW.out).size (fun j hj => Nat.le_trans L5.out.size (H6.out.lt j hj).1)
      have B1 := hide (box_grown (BR5.out.later LW.out) H6.out (by decide) hg11)
      have O2 := hide (owns_kept (w' := W1) H2.out fun j hj => hg11.block j (H2.out.lt j hj).2 (own_ne_own H2.out H6.out (by decide) j hj).symm)
      have O11 := hide ho11
      clear ho11 hg11 H2 H6 H10 LW
      obtain ⟨a2, c2, e2⟩ := (Rw.of_owns O2.out).shape
      subst e2
      obtain ⟨a11, c11, e11⟩ := (Rw.of_owns O11.out).shape
      subst e11
      have c0 := B1.out.cell 0
      have c1 := B1.out.cell 1
      have f0 := B1.out.frozen 0
      have f1 := B1.out.frozen 1
      refine wpL_cons rfl (fun K hK => ?_)
      simp only [putAll, List.foldl, dstOf]
      go_simp
      refine hK _ _ ?_
      clear hK K
      refine wpL_cons rfl (fun K hK => ?_)
      go_simp
      refine hK _ _ ?_
      clear hK K
      refine wpL_cons rfl (fun K hK => ?_)
      go_simp
      refine hK _ _ (wpL_nil ?_)
      clear hK K
      have hne : ∀ j, j ≠ w.heap.size + 1 + 1 → ((W1.setCell ⟨w.heap.size + 1 + 1, 0, none⟩ (.slice a2 n c2)).setCell ⟨w.heap.size + 1 + 1, 1, none⟩ (.slice a11 (m6 + 1) c11)).heap[j]? = W1.heap[j]? := fun j hj => by
        rw [heap_setCell_other _ _ _ _ (by simpa using hj), heap_setCell_other _ _ _ _ (by simpa using hj)]
      have BE : Hid (Box ((W1.setCell ⟨w.heap.size + 1 + 1, 0, none⟩ (.slice a2 n c2)).setCell ⟨w.heap.size + 1 + 1, 1, none⟩ (.slice a11 (m6 + 1) c11)) (w.heap.size + 1 + 1) 25 [.slice a2 n c2, .slice a11 (m6 + 1) c11]) := (B1.out.set 0 _).set 1 _
      have LE : Hid (Later w ((W1.setCell ⟨w.heap.size + 1 + 1, 0, none⟩ (.slice a2 n c2)).setCell ⟨w.heap.size + 1 + 1, 1, none⟩ (.slice a11 (m6 + 1) c11))) := (L1.out.setCell (by simp; omega) _).setCell (by simp; omega) _
      have ME : Hid (Med ((W1.setCell ⟨w.heap.size + 1 + 1, 0, none⟩ (.slice a2 n c2)).setCell ⟨w.heap.size + 1 + 1, 1, none⟩ (.slice a11 (m6 + 1) c11)) (.agg #[.slice a2 n c2, .slice a11 (m6 + 1) c11]) (wrN n D z) (wrF n F D z X false) (wrD n D z X false) ∧ ∀ g, g < w.heap.size → OffM g (.agg #[.slice a2 n c2, .slice a11 (m6 + 1) c11])) := by
        have e1 := owns_kept O2.out fun j hj => hne j (fun e => box_ne_own B1.out O2.out (by decide) j hj e.symm)
        have e2 := owns_kept O11.out fun j hj => hne j (fun e => box_ne_own B1.out O11.out (by decide) j hj e.symm)
        rw [show wrN n D z = n from by simp [wrN, hE.out], HF5.out, HD5.out]
        refine ⟨⟨_, _, rfl, Rw.of_owns e1, ?_, ?_⟩, fun g hg => ⟨_, _, rfl, owns_off O2.out (Nat.lt_of_lt_of_le hg L5.out.size), owns_off O11.out (Nat.lt_of_lt_of_le hg L5.out.size)⟩⟩
        · rw [dv_append, List.length_append, ← HM6.out]
          exact Rw.of_owns e2
        · refine HO5.out.append fun d hd => ?_
          have : d = ((z : Int), X) := by simpa using hd
          subst this
          exact ⟨HX.out, by omega, by omega⟩
      clear c0 c1 f0 f1 hne B1 O2 O11 L1
      generalize ((W1.setCell ⟨w.heap.size + 1 + 1, 0, none⟩ (.slice a2 n c2)).setCell ⟨w.heap.size + 1 + 1, 1, none⟩ (.slice a11 (m6 + 1) c11)) = WE at *
      go_wp2
      exact bodyPost_ret (results_cell_tmp rfl _ _ _ (w.heap.size + 1 + 1) 0 rfl (.agg #[.slice a2 n c2, .slice a11 (m6 + 1) c11]) (.int .i64 0) (run_loadVar_mid _ _ _ _ [.slice a2 n c2, .slice a11 (m6 + 1) c11] _ BE.out.range Try.underlying25 rfl (by kernel_rfl)) rfl) rfl ⟨.agg #[.slice a2 n c2, .slice a11 (m6 + 1) c11], by rw [hE.out], LE.out, ME.out.1, ME.out.2⟩
  · have hkq : ((k : Int) == 64) = false := by simp; omega
    have HF5 : Hid (wrF n F D z X false = F) := by
      have h1 := HK.out
      simp [Hid, wrF, hE.out]
      intro h3; omega
    have HD5 : Hid (wrD n D z X false = D ++ [((z : Int), X)]) := by
      have h1 := HK.out
      simp [Hid, wrD, hE.out]
      intro h3; omega
    go_wp2_with fail
    have L5 := L2
    have BX5 := BX
    have BR5 := BR
    have BD5 := BD
    have RB := hide (HB.out.later L2.out)
    have RD := hide (HD.out.later L2.out)
    have HO5 := HO
    have hk65 := hk64
    clear L2 BX BR BD d0 d1 r0 r1 f0 f1
    have hc0 := fun r => (Box.later BX5.out ((Later.refl w2).drew.trans (later_rg w2.drew r))).cell 0
    have hc1 := fun r => (Box.later BX5.out ((Later.refl w2).drew.trans (later_rg w2.drew r))).cell 1
    refine wp_region_tree [0, 1, 4, 5, 7, 8, 9] [2, 3, 6, 10] [11, 12, 13, 14] (by kernel_rfl) (by kernel_rfl) (by kernel_rfl) (by kernel_rfl) ?_
    iterate 5 (refine wpT_mild rfl (fun K hK => ?_); go_simp; refine hK _ ?_; clear hK K)
    refine wpT_loadG rfl rfl 58 (.tmp 6) rfl (w.heap.size + 1) 0 rfl (bv X) _ ((World.rangeAt_drew _ _ _ _).2 BD5.out.range) Try.underlying58 rfl (by rw [Try.info_block, bv_length, HX.out]) ?_
    refine wpT_mild rfl (fun K hK => ?_)
    go_simp
    rw [dirty_build (.int .i64 (z : Int)) (bv X) _ ?hZ (by rw [bv_length, HX.out])]
    case hZ => first | exact zc65_size | rfl
    refine ⟨_, fun p => ⟨rfl, rfl⟩, hK _ ?_⟩
    clear hK K hc0 hc1
    have hdv : Hid (dv [((z : Int), X)] = .int .i64 (z : Int) :: bv X) := by simp [Hid, dv]
    refine wpT_bag (fun i => match i with | 6 => [2, 3] | _ => []) (fun i vals W => match i with
      | 2 => W.ownsRow w2.heap.size 58 64 (vals 2) n (bv F)
      | 3 => ∃ g, vals 3 = .slice (some ⟨g, 0, none⟩) 0 0 ∧ W.ownsRow w2.heap.size 79 65 (vals 3) 0 []
      | 6 => W.ownsRow w2.heap.size 79 65 (vals 6) k (dv D)
      | 10 => Rw 65 W (vals 10) 1 (dv [((z : Int), X)])
      | _ => True) (by kernel_rfl) ?b1 ?b2 ?b3 ?b4
    case b1 =>
      intro i hi vals W W' hl h
      simp only [List.mem_cons, List.not_mem_nil, or_false] at hi
      rcases hi with rfl | rfl | rfl | rfl
      · exact owns_later h hl
      · obtain ⟨g, h1, h2⟩ := h; exact ⟨g, h1, owns_later h2 hl⟩
      · exact owns_later h hl
      · exact Rw.later h hl
    case b2 =>
      intro i hi k hk hne hds vals v W h
      simp only [List.mem_cons, List.not_mem_nil, or_false] at hi hk
      rcases hi with rfl | rfl | rfl | rfl <;> rcases hk with rfl | rfl | rfl | rfl <;> first | (exact absurd rfl hne) | (simpa [upd] using h) | (simp at hds)
    case b3 =>
      intro i hi vals W hl hdep
      have LW := hide ((Later.refl w2).drew.trans hl)
      simp only [List.mem_cons, List.not_mem_nil, or_false] at hi
      rcases hi with rfl | rfl | rfl | rfl
      · refine lVal_step rfl (fun K hK => ?_)
        simp only [putAll, List.foldl]
        go_simp
        refine (rcopy_c W W.heap.size (Nat.le_refl _) (RB.out.later LW.out) (by omega)).mono ?_
        rintro e w3 ⟨v3, rfl, hl3, ho3⟩
        exact ⟨v3, rfl, hl3, hK _ _ (by simpa [upd] using owns_rebase ho3 LW.out.size)⟩
      · refine lVal_step rfl (fun K hK => ?_)
        simp only [putAll, List.foldl]
        go_simp
        refine ⟨(Later.refl W).alloc _, hK _ _ ⟨W.heap.size, by simp [upd], ?_⟩⟩
        have := World.ownsRow_lit (e := 79) (size := 65) W #[] 0 LW.out.size (by simp [maxLen]) rfl
        simpa [upd] using this
      · obtain ⟨g, hg, ho⟩ := hdep 3 (by simp)
        rw [hg] at ho
        refine lVal_append_lit Try.elem_dirty Try.underlying23 z65_size (by decide) rfl rfl (.tmp 49) (.tmp 51) rfl w2.heap.size g ?_ ho LW.out.size _ k (dv D) rfl (RD.out.later LW.out) (dv_one _) (by omega) ?_
        · show vals 3 = _
          exact hg
        · intro v' w' h
          simpa [upd] using h
      · refine lVal_buildOne Try.elem_dirty Try.underlying23 z65_size (by decide) (by decide) rfl rfl (.tmp 55) rfl (.int .i64 (z : Int) :: bv X) rfl (by simp [bv_length, HX.out]) ?_
        intro h
        show Rw 65 _ (upd vals 10 _ 10) 1 (dv [((z : Int), X)])
        rw [upd_same, hdv.out]
        exact h
    case b4 =>
      intro vals W hl hall
      have LW := hide ((Later.refl w2).drew.trans hl)
      have h2 := hall 2 (by simp)
      have h6 := hall 6 (by simp)
      have h10 := hall 10 (by simp)
      have H2 : Hid (W.ownsRow w2.heap.size 58 64 (vals 2) n (bv F)) := h2
      have H6 : Hid (W.ownsRow w2.heap.size 79 65 (vals 6) k (dv D)) := h6
      have H10 : Hid (Rw 65 W (vals 10) 1 (dv [((z : Int), X)])) := h10
      clear h2 h6 h10 hall hl
      generalize hv2 : vals 2 = v2 at *
      generalize hv6 : vals 6 = v6 at *
      generalize hv10 : vals 10 = v10 at *
      refine wpL_append_rw Try.elem_dirty Try.underlying23 z65_size (by decide) rfl rfl (.tmp 52) (.tmp 56) rfl w2.heap.size v6 k (dv D) (by exact hv6) H6.out v10 1 _ (by exact hv10) H10.out (dv_one _) (by omega) (by unfold maxLen; omega) LW.out.size ?_
      intro v11 W1 ho11 hg11
      have L1 : Hid (Later w W1) := Below.grown (L5.out.trans LW.out) hg11 (L5.out.trans LW.out).size (fun j hj => Nat.le_trans L5.out.size (H6.out.lt j hj).1)
      have B1 := hide (box_grown (BR5.out.later LW.out) H6.out (by decide) hg11)
      have O2 := hide (owns_kept (w' := W1) H2.out fun j hj => hg11.block j (H2.out.lt j hj).2 (own_ne_own H2.out H6.out (by decide) j hj).symm)
      have O11 := hide ho11
      clear ho11 hg11 H2 H6 H10 LW
      obtain ⟨a2, c2, e2⟩ := (Rw.of_owns O2.out).shape
      subst e2
      obtain ⟨a11, c11, e11⟩ := (Rw.of_owns O11.out).shape
      subst e11
      have c0 := B1.out.cell 0
      have c1 := B1.out.cell 1
      have f0 := B1.out.frozen 0
      have f1 := B1.out.frozen 1
      refine wpL_cons rfl (fun K hK => ?_)
      simp only [putAll, List.foldl, dstOf]
      go_simp
      refine hK _ _ ?_
      clear hK K
      refine wpL_cons rfl (fun K hK => ?_)
      go_simp
      refine hK _ _ ?_
      clear hK K
      refine wpL_cons rfl (fun K hK => ?_)
      go_simp
      refine hK _ _ (wpL_nil ?_)
      clear hK K
      have hne : ∀ j, j ≠ w.heap.size + 1 + 1 → ((W1.setCell ⟨w.heap.size + 1 + 1, 0, none⟩ (.slice a2 n c2)).setCell ⟨w.heap.size + 1 + 1, 1, none⟩ (.slice a11 (k + 1) c11)).heap[j]? = W1.heap[j]? := fun j hj => by
        rw [heap_setCell_other _ _ _ _ (by simpa using hj), heap_setCell_other _ _ _ _ (by simpa using hj)]
      have BE : Hid (Box ((W1.setCell ⟨w.heap.size + 1 + 1, 0, none⟩ (.slice a2 n c2)).setCell ⟨w.heap.size + 1 + 1, 1, none⟩ (.slice a11 (k + 1) c11)) (w.heap.size + 1 + 1) 25 [.slice a2 n c2, .slice a11 (k + 1) c11]) := (B1.out.set 0 _).set 1 _
      have LE : Hid (Later w ((W1.setCell ⟨w.heap.size + 1 + 1, 0, none⟩ (.slice a2 n c2)).setCell ⟨w.heap.size + 1 + 1, 1, none⟩ (.slice a11 (k + 1) c11))) := (L1.out.setCell (by simp; omega) _).setCell (by simp; omega) _
      have ME : Hid (Med ((W1.setCell ⟨w.heap.size + 1 + 1, 0, none⟩ (.slice a2 n c2)).setCell ⟨w.heap.size + 1 + 1, 1, none⟩ (.slice a11 (k + 1) c11)) (.agg #[.slice a2 n c2, .slice a11 (k + 1) c11]) (wrN n D z) (wrF n F D z X false) (wrD n D z X false) ∧ ∀ g, g < w.heap.size → OffM g (.agg #[.slice a2 n c2, .slice a11 (k + 1) c11])) := by
        have e1 := owns_kept O2.out fun j hj => hne j (fun e => box_ne_own B1.out O2.out (by decide) j hj e.symm)
        have e2 := owns_kept O11.out fun j hj => hne j (fun e => box_ne_own B1.out O11.out (by decide) j hj e.symm)
        rw [show wrN n D z = n from by simp [wrN, hE.out], HF5.out, HD5.out]
        refine ⟨⟨_, _, rfl, Rw.of_owns e1, ?_, ?_⟩, fun g hg => ⟨_, _, rfl, owns_off O2.out (Nat.lt_of_lt_of_le hg L5.out.size), owns_off O11.out (Nat.lt_of_lt_of_le hg L5.out.size)⟩⟩
        · rw [dv_append, List.length_append, ← HK.out]
          exact Rw.of_owns e2
        · refine HO5.out.append fun d hd => ?_
          have : d = ((z : Int), X) := by simpa using hd
          subst this
          exact ⟨HX.out, by omega, by omega⟩
      clear c0 c1 f0 f1 hne B1 O2 O11 L1
      generalize ((W1.setCell ⟨w.heap.size + 1 + 1, 0, none⟩ (.slice a2 n c2)).setCell ⟨w.heap.size + 1 + 1, 1, none⟩ (.slice a11 (k + 1) c11)) = WE at *
      go_wp2
      exact bodyPost_ret (results_cell_tmp rfl _ _ _ (w.heap.size + 1 + 1) 0 rfl (.agg #[.slice a2 n c2, .slice a11 (k + 1) c11]) (.int .i64 0) (run_loadVar_mid _ _ _ _ [.slice a2 n c2, .slice a11 (k + 1) c11] _ BE.out.range Try.underlying25 rfl (by kernel_rfl)) rfl) rfl ⟨.agg #[.slice a2 n c2, .slice a11 (k + 1) c11], by rw [hE.out], LE.out, ME.out.1, ME.out.2⟩
theorem rwrite3_x {v : Value} {n : Nat} {F : List UInt8} {D : List Drt} (at_ : Int) (X : List UInt8) (th : Bool) (w : World) (h : Med w v n F D) (hX : X.length = 64) (ha : -9223372036854775808 ≤ at_) (ha' : at_ ≤ 9223372036854775807) :
    Calls Try.prog 59 #[v, .int .i64 at_, .agg (bv X).toArray, .bool th] w fun e w' => ∃ v', e = .returned (.tuple #[v', .int .i64 (wrE n D at_)]) ∧ Later w w' ∧ Med w' v' (wrN n D at_) (wrF n F D at_ X th) (wrD n D at_ X th) ∧ ∀ g, g < w.heap.size → OffM g v' := by
  cases th with
  | true => exact rwrite3_tx at_ X w h hX ha ha'
  | false => exact rwrite3_fx at_ X w h hX ha ha'
end Go.Proofs.Ytbcikndebaeahaa

namespace Go.Proofs.Ytbcikndebaeahaa
open Go.ChangeShapes Go.WideShapes Go.ChangeAt Go.RowKit
set_option linter.unusedVariables false
set_option maxRecDepth 4000
set_option linter.unusedSimpArgs false
/-! What the landed cache does, said; proved in P3. -/
def IAll : Prop := ∀ (v : Value) (n : Nat) (F : List UInt8) (D : List Drt) (w : World), Med w v n F D →
  Calls Try.prog 82 #[v] w fun e w' => ∃ v', e = .returned v' ∧ Later w w' ∧ Rw 64 w' v' (allN n D) (bv (allF n F D))
theorem Med.shape {w : World} {v : Value} {n : Nat} {F : List UInt8} {D : List Drt} (h : Med w v n F D) : ∃ a c a' k c', v = .agg #[.slice a n c, .slice a' k c'] ∧ Hid (k = D.length) ∧ n ≤ 9223372036854775807 ∧ k ≤ 9223372036854775807 := by
  obtain ⟨vb, vd, rfl, hb, hd, _⟩ := h
  obtain ⟨a, c, rfl⟩ := hb.shape
  obtain ⟨a', c', rfl⟩ := hd.shape
  have h1 := hb.2.1
  have h2 := hd.2.1
  unfold maxLen at h1 h2
  exact ⟨a, c, a', D.length, c', rfl, rfl, by omega, by omega⟩
theorem rall_b {v : Value} {n : Nat} {F : List UInt8} {D : List Drt} (w : World) (h : Med w v n F D) :
    Calls Try.prog 22 #[v] w fun e w' => ∃ v', e = .returned v' ∧ Later w w' ∧ Rw 64 w' v' (allN n D) (bv (allF n F D)) :=
  (rall_c w h).mono fun e w' ⟨v', he, hl, ho⟩ => ⟨v', he, hl, Rw.of_owns ho⟩
theorem Try.zero_medium : (Try.prog.info? 25).map (fun i => (i.zero, i.size)) = some (some (.agg #[.slice none 0 0, .slice none 0 0]), 2) := by kernel_rfl
theorem Try.guard_block : Try.prog.eqGuardType Try.prog.depth 58 = false := by kernel_rfl
theorem block_eq (X Y : List UInt8) (hX : X.length = 64) (hY : Y.length = 64) (w : World) : (Op.equalIn 10000 58 (.agg (bv X).toArray) (.agg (bv Y).toArray)).run Try.prog w = .ok (X == Y) w :=
  bytes_eq 58 5 64 Try.underlying58 Try.underlying5 (by kernel_rfl) X Y hX hY w
/-- 'x := v', v a medium -/
theorem wpList_newM {w : World} {ops : Array Oper} {rest : List Oper} {o1 o2 : Oper} {a : Act} {Q : Exit → Act → World → Prop} (hg1 : o1.guard = none) (hg2 : o2.guard = none) (h1 : o1.op = .alloc 25) (d : Tmp) (hd : o1.dst = some d) (hd' : d < a.tmps.size) (y : Operand) (hy' : y ≠ .tmp d) (h2 : o2.op = .store 25 (.tmp d) y)
    (x1 x2 : Option Addr) (n1 c1 n2 c2 : Nat) (hy : a.eval y = .agg #[.slice x1 n1 c1, .slice x2 n2 c2])
    (h : ∀ (g : Nat) (w' : World), Box w' g 25 [.slice x1 n1 c1, .slice x2 n2 c2] → Later w w' → Hid (g = w.heap.size ∧ w' = w.alloc (.cells #[.slice x1 n1 c1, .slice x2 n2 c2] 25)) → wpList Try.prog ops Q rest ((a.put (some d) (.pointer (some ⟨g, 0, none⟩))).put o2.dst undef) w') : wpList Try.prog ops Q (o1 :: o2 :: rest) a w :=
  wpList_new hg1 hg2 25 h1 d hd hd' y hy' h2 #[.slice none 0 0, .slice none 0 0] [.slice x1 n1 c1, .slice x2 n2 c2] Try.zero_medium rfl hy (by simp [Value.oneCell']) h
end Go.Proofs.Ytbcikndebaeahaa

namespace Go.Proofs.Ytbcikndebaeahaa
open Go.ChangeShapes Go.WideShapes Go.ChangeAt Go.RowKit
set_option linter.unusedVariables false
set_option maxRecDepth 4000
set_option linter.unusedSimpArgs false
/-! Slots. Variables that hold no numbers lie apart from rows of numbers. -/
def NoInts (cs : List Value) : Prop := ∀ c ∈ cs, ∀ k z, c ≠ .int k z
def Ints (xs : List Value) : Prop := ∀ x ∈ xs, ∃ k z, x = .int k z
theorem bv_ints (l : List UInt8) : Ints (bv l) := fun x hx => by
  obtain ⟨b, _, rfl⟩ := List.mem_map.1 hx
  exact ⟨_, _, rfl⟩
theorem dv_ints (D : List Drt) : Ints (dv D) := fun x hx => by
  simp only [dv, List.mem_flatMap] at hx
  obtain ⟨d, _, hd⟩ := hx
  rcases List.mem_cons.1 hd with e | h
  · exact ⟨_, _, e⟩
  · exact bv_ints _ x h
theorem Rw.setBox {sz : Nat} {w : World} {v : Value} {n : Nat} {xs : List Value} {g : Nat} {ty : TypeId} {cs : List Value} (h : Rw sz w v n xs) (hx : Ints xs) (hB : Box w g ty cs) (hc : NoInts cs) (vs : List Value) (o : Nat) : Rw sz (w.setCells g o vs) v n xs := by
  obtain ⟨h1, h2, a, cap, rfl, hcap, h3⟩ := h
  refine ⟨h1, h2, a, cap, rfl, hcap, ?_⟩
  rcases h3 with h3 | ⟨b, off, rfl, hr⟩
  · exact .inl h3
  · refine .inr ⟨b, off, rfl, fun j u hu => ?_⟩
    have h4 := hr j u hu
    have hne : b ≠ g := fun e => by
      subst e
      rw [hB.cell] at h4
      obtain ⟨k, z, e⟩ := hx u (List.mem_of_getElem? hu)
      exact hc u (List.mem_of_getElem? h4) k z e
    rw [← h4]
    simp only [World.cell?, heap_setCells_other w g b hne]
theorem Med.setBox {w : World} {v : Value} {n : Nat} {F : List UInt8} {D : List Drt} {g : Nat} {ty : TypeId} {cs : List Value} (h : Med w v n F D) (hB : Box w g ty cs) (hc : NoInts cs) (vs : List Value) (o : Nat) : Med (w.setCells g o vs) v n F D := by
  obtain ⟨vb, vd, rfl, hb, hd, ho⟩ := h
  exact ⟨vb, vd, rfl, hb.setBox (bv_ints F) hB hc vs o, hd.setBox (dv_ints D) hB hc vs o, ho⟩
/-- a slot's cells -/
abbrev tc (vb vd : Value) (p r l : Bool) : List Value := [vb, vd, .bool p, .bool r, .bool l]
def Slt (w : World) (v : Value) (n : Nat) (F : List UInt8) (D : List Drt) (p r l : Bool) : Prop :=
  ∃ ab cb aD k cD, v = .agg #[.slice ab n cb, .slice aD k cD, .bool p, .bool r, .bool l] ∧ Med w (.agg #[.slice ab n cb, .slice aD k cD]) n F D
def OffT (g : Nat) (v : Value) : Prop := ∃ a b p r l, v = .agg #[a, b, .bool p, .bool r, .bool l] ∧ OffS g a ∧ OffS g b
/-- what comes out lies in what came in, or in new memory -/
def NewT (w : World) (v v' : Value) : Prop := ∀ g, g < w.heap.size → OffT g v → OffT g v'
theorem tc_noints (a b : Option Addr) (n m c d : Nat) (p r l : Bool) : NoInts (tc (.slice a n c) (.slice b m d) p r l) := by
  intro x hx k z
  simp at hx
  rcases hx with rfl | rfl | rfl | rfl | rfl <;> simp
theorem tc_one (a b : Option Addr) (n m c d : Nat) (p r l : Bool) : ∀ u ∈ tc (.slice a n c) (.slice b m d) p r l, u.oneCell' = true := by
  intro x hx
  simp at hx
  rcases hx with rfl | rfl | rfl | rfl | rfl <;> rfl
theorem Slt.later {w w' : World} {v : Value} {n : Nat} {F : List UInt8} {D : List Drt} {p r l : Bool} (h : Slt w v n F D p r l) (hl : Later w w') : Slt w' v n F D p r l := by
  obtain ⟨ab, cb, aD, k, cD, rfl, hm⟩ := h
  exact ⟨ab, cb, aD, k, cD, rfl, hm.later hl⟩
theorem Slt.old {w : World} {v : Value} {n : Nat} {F : List UInt8} {D : List Drt} {p r l : Bool} (h : Slt w v n F D p r l) {g : Nat} (hg : w.heap.size ≤ g) : OffT g v := by
  obtain ⟨ab, cb, aD, k, cD, rfl, hm⟩ := h
  obtain ⟨vb, vd, e, h1, h2, _⟩ := hm
  simp at e
  obtain ⟨rfl, rfl⟩ := e
  exact ⟨_, _, _, _, _, rfl, h1.old (by decide) hg, h2.old (by decide) hg⟩
theorem Try.info_slot : (Try.prog.info? 27).map (·.size) = some 5 := by kernel_rfl
theorem Try.zero_slot : (Try.prog.info? 27).map (fun i => (i.zero, i.size)) = some (some (.agg #[.slice none 0 0, .slice none 0 0, .bool false, .bool false, .bool false]), 5) := by kernel_rfl
/-- a slot is laid into the variable of the result -/
theorem slot_set {w w8 : World} {R : Nat} {a b : Option Addr} {n m c d n' : Nat} {p r l : Bool} {F : List UInt8} {D : List Drt} {cs : List Value} (hR : w.heap.size ≤ R) (hB : Box w8 R 27 cs) (hn : NoInts cs) (hl5 : cs.length = 5) (hl : Later w w8) (hm : Med w8 (.agg #[.slice a n c, .slice b m d]) n' F D) :
    Box (w8.setCells R 0 (tc (.slice a n c) (.slice b m d) p r l)) R 27 (tc (.slice a n c) (.slice b m d) p r l) ∧ Later w (w8.setCells R 0 (tc (.slice a n c) (.slice b m d) p r l)) ∧ Med (w8.setCells R 0 (tc (.slice a n c) (.slice b m d) p r l)) (.agg #[.slice a n c, .slice b m d]) n' F D :=
  ⟨hB.all _ (by simp [hl5]), hl.setCells hR _ 0, hm.setBox hB hn _ 0⟩
theorem Slt.mk' {w : World} {a b : Option Addr} {n m c d n' : Nat} {F : List UInt8} {D : List Drt} (p r l : Bool) (hm : Med w (.agg #[.slice a n c, .slice b m d]) n' F D) : Slt w (.agg #[.slice a n c, .slice b m d, .bool p, .bool r, .bool l]) n' F D p r l := by
  obtain ⟨vb, vd, e, h1, h2, h3⟩ := hm
  simp at e
  obtain ⟨rfl, rfl⟩ := e
  have : n = n' := by
    obtain ⟨a', c', e'⟩ := h1.shape
    simp at e'
    exact e'.2.1
  subst this
  exact ⟨a, c, b, m, d, rfl, _, _, rfl, h1, h2, h3⟩
theorem shut5 {w : World} {R : Nat} {cs : List Value} (h : Box w R 27 cs) (hl : cs.length = 5) : (loadVar 27 ⟨R, 0, none⟩).run Try.prog w = .ok (.agg cs.toArray) w :=
  run_loadVar_mid _ _ _ _ cs _ h.range Try.underlying27 rfl (by rw [Try.info_slot, hl])
/-- a store into the parameter's variable: it turns, the result's stays, the medium stays -/
theorem tri_set {w w3 : World} {gX gR : Nat} {tR : TypeId} {cs cr : List Value} {v : Value} {n : Nat} {F : List UInt8} {D : List Drt} (hX : w.heap.size ≤ gX) (hne : gX ≠ gR) (BX : Box w3 gX 27 cs) (hn : NoInts cs) (BR : Box w3 gR tR cr) (L : Later w w3) (M : Med w3 v n F D) (vs : List Value) (o : Nat) (ho : o + vs.length ≤ cs.length) :
    Box (w3.setCells gX o vs) gX 27 (cs.take o ++ vs ++ cs.drop (o + vs.length)) ∧ Box (w3.setCells gX o vs) gR tR cr ∧ Later w (w3.setCells gX o vs) ∧ Med (w3.setCells gX o vs) v n F D :=
  ⟨BX.setCells vs o ho, BR.kept (heap_setCells_other w3 gX gR (fun e => hne e.symm) _ _), L.setCells hX vs o, M.setBox BX hn vs o⟩
theorem Rw.setOff {sz : Nat} {w : World} {v : Value} {n : Nat} {xs : List Value} {g : Nat} (h : Rw sz w v n xs) (hx : OffS g v) (vs : List Value) (o : Nat) : Rw sz (w.setCells g o vs) v n xs := by
  obtain ⟨h1, h2, a, cap, rfl, hcap, h3⟩ := h
  refine ⟨h1, h2, a, cap, rfl, hcap, ?_⟩
  rcases h3 with h3 | ⟨b, off, rfl, hr⟩
  · exact .inl h3
  · rcases hx with hx | hx
    · exact .inl hx
    · refine .inr ⟨b, off, rfl, fun j u hu => ?_⟩
      rw [← hr j u hu]
      simp only [World.cell?, heap_setCells_other w g b (fun e => hx e)]
theorem Slt.setOff {w : World} {v : Value} {n : Nat} {F : List UInt8} {D : List Drt} {p r l : Bool} {g : Nat} (h : Slt w v n F D p r l) (hx : OffT g v) (vs : List Value) (o : Nat) : Slt (w.setCells g o vs) v n F D p r l := by
  obtain ⟨ab, cb, aD, k, cD, rfl, hm⟩ := h
  obtain ⟨a, b, p', r', l', e, o1, o2⟩ := hx
  simp at e
  obtain ⟨rfl, rfl, _⟩ := e
  obtain ⟨vb, vd, e, h1, h2, h3⟩ := hm
  simp at e
  obtain ⟨rfl, rfl⟩ := e
  exact ⟨ab, cb, aD, k, cD, rfl, _, _, rfl, h1.setOff o1 vs o, h2.setOff o2 vs o, h3⟩
/-- two results, each in a variable of its own -/
theorem results_cell_cell' {fn : Func} {p q : Tmp} {ty ty' : TypeId} (h : fn.results = #[.cell p ty, .cell q ty']) (tmps : Array Value) (P : Program) (w : World) (b o b' o' : Nat) (hp : tmps.getD p undef = .pointer (some ⟨b, o, none⟩)) (hq : tmps.getD q undef = .pointer (some ⟨b', o', none⟩)) (v u : Value) (hl : (loadVar ty ⟨b, o, none⟩).run P w = .ok v w) (hl' : (loadVar ty' ⟨b', o', none⟩).run P w = .ok u w) :
    (results fn tmps).run P w = .ok (.tuple #[v, u]) w := by
  have ha : (asAddr (tmps.getD p undef)).run P w = .ok ⟨b, o, none⟩ w := by rw [hp]; rfl
  have hb : (asAddr (tmps.getD q undef)).run P w = .ok ⟨b', o', none⟩ w := by rw [hq]; rfl
  simp only [results, h]
  simp only [List.mapM_toArray, Sem.run_bind]
  simp [ha, hl, hb, hl', -Array.getD_eq_getD_getElem?]
theorem shut3 {w : World} {R : Nat} {s : Sns} (h : Box w R 30 (sc s)) : (loadVar 30 ⟨R, 0, none⟩).run Try.prog w = .ok (sval s) w :=
  run_loadVar_mid _ _ _ _ (sc s) _ h.range Try.underlying30 rfl Try.info_sense
/-- a store of a struct into a variable of whatever type; the world behind it gets a name -/
theorem wpList_storeT {P : Program} {w : World} {ops : Array Oper} {rest : List Oper} {op : Oper} {a : Act} {Q : Exit → Act → World → Prop} (hgd : op.guard = none) (ty : TypeId) (x y : Operand) (ho : op.op = .store ty x y) (g o : Nat) (hx : a.eval x = .pointer (some ⟨g, o, none⟩)) (vs : List Value) (hy : a.eval y = .agg vs.toArray)
    (hi : (P.info? ty).map (·.size) = some vs.length) (h1 : ∀ u ∈ vs, u.oneCell' = true) (t : TypeId) (cs : List Value) (hB : Box w g t cs) (hl : o + vs.length ≤ cs.length)
    (h : ∀ w', Hid (w' = w.setCells g o vs) → wpList P ops Q rest (a.put op.dst undef) w') : wpList P ops Q (op :: rest) a w :=
  wpList_store_mid hgd ty x y ho g o vs.toArray hx hy (by simpa using hB.there o vs.length hl) (by simpa using hi) (all_oneCell_toArray h1) (h _ rfl)
/-- a store of one cell -/
theorem wpList_storeC {P : Program} {w : World} {ops : Array Oper} {rest : List Oper} {op : Oper} {a : Act} {Q : Exit → Act → World → Prop} (hgd : op.guard = none) (ty : TypeId) (x y : Operand) (ho : op.op = .store ty x y) (g o : Nat) (hx : a.eval x = .pointer (some ⟨g, o, none⟩)) (b : Bool) (hy : a.eval y = .bool b)
    (hs : (P.info? ty).map (·.size) = some 1) (t : TypeId) (cs : List Value) (hB : Box w g t cs) (hl : o < cs.length)
    (h : ∀ w', Hid (w' = w.setCells g o [.bool b]) → wpList P ops Q rest (a.put op.dst undef) w') : wpList P ops Q (op :: rest) a w := by
  refine wpList_plain hgd fun K hK => ?_
  have hc : w.cell? ⟨g, o, none⟩ = some (cs[o]'hl) := by rw [hB.cell o, List.getElem?_eq_getElem hl]
  have hf := hB.frozen o
  have hrun : (Instr.storeAt ty (.pointer (some ⟨g, o, none⟩)) (.bool b)).run P w = .ok () (w.setCells g o [.bool b]) := by
    simp [Instr.storeAt, Instr.sureAddr, storeVar, run_size hs, Value.cells, World.setCells]
    go_simp
  unfold Go.Oper.wp
  simp [execOp, ho, hx, hy, hrun, Result.andThen]
  exact hK _ _ (h _ rfl)
end Go.Proofs.Ytbcikndebaeahaa

namespace Go.Proofs.Ytbcikndebaeahaa
open Go.ChangeShapes Go.WideShapes Go.ChangeAt Go.RowKit
set_option linter.unusedVariables false
set_option maxRecDepth 4000
set_option linter.unusedSimpArgs false
/-! The document's answers for slots. -/
def syncF (n : Nat) (F : List UInt8) (D : List Drt) : List UInt8 := if rightB n D then app F D else F
def syncD (n : Nat) (D : List Drt) : List Drt := if rightB n D then [] else D
set_option maxRecDepth 20000 in
set_option maxHeartbeats 1000000 in
theorem rsync_c {v : Value} {n : Nat} {F : List UInt8} {D : List Drt} {p r l : Bool} (w : World) (h : Slt w v n F D p r l) :
    Calls Try.prog 40 #[v] w fun e w' => ∃ v', e = .returned v' ∧ Later w w' ∧ Slt w' v' n (syncF n F D) (syncD n D) p r l ∧ NewT w v v' := by
  obtain ⟨ab, cb, aD, k, cD, rfl, hm⟩ := h
  have HM := hide hm
  have BX : Hid (Box (w.alloc (.cells #[.slice ab n cb, .slice aD k cD, .bool p, .bool r, .bool l] 27)) w.heap.size 27 (tc (.slice ab n cb) (.slice aD k cD) p r l)) := Box.new w 27 #[.slice ab n cb, .slice aD k cD, .bool p, .bool r, .bool l]
  have L := hide ((Later.refl w).alloc (.cells #[.slice ab n cb, .slice aD k cD, .bool p, .bool r, .bool l] 27))
  clear hm
  have BR : Hid (Box ((w.alloc (.cells #[.slice ab n cb, .slice aD k cD, .bool p, .bool r, .bool l] 27)).alloc (.cells #[.slice none 0 0, .slice none 0 0, .bool false, .bool false, .bool false] 27)) (w.heap.size + 1) 27 (tc (.slice none 0 0) (.slice none 0 0) false false false)) := Box.new' _ _ _ _ rfl _ (by simp)
  replace BX := hide (BX.out.alloc (.cells #[.slice none 0 0, .slice none 0 0, .bool false, .bool false, .bool false] 27))
  replace L := hide (L.out.alloc (.cells #[.slice none 0 0, .slice none 0 0, .bool false, .bool false, .bool false] 27))
  have M1 := hide (HM.out.later L.out)
  go_enter Try.func40, Try.ntmps40
  go_wp2_with fail
  generalize ((w.alloc (.cells #[.slice ab n cb, .slice aD k cD, .bool p, .bool r, .bool l] 27)).alloc (.cells #[.slice none 0 0, .slice none 0 0, .bool false, .bool false, .bool false] 27)) = w1 at *
  refine (rright_c w1 M1.out).mono ?_
  rintro e w2 ⟨rfl, hl⟩
  replace BX := hide (BX.out.later hl)
  replace BR := hide (BR.out.later hl)
  replace L := hide (L.out.later hl)
  replace M1 := hide (M1.out.later hl)
  clear hl
  have d0 := BX.out.cell 0
  have d1 := BX.out.cell 1
  have d2 := BX.out.cell 2
  have d3 := BX.out.cell 3
  have d4 := BX.out.cell 4
  cases hR : rightB n D with
  | true =>
    have hF : Hid (syncF n F D = app F D ∧ syncD n D = []) := by simp [Hid, syncF, syncD, hR]
    go_wp2_with fail
    refine (rall_c w2 M1.out).mono ?_
    rintro e w3 ⟨vb, rfl, hl, hb⟩
    simp only [allN, allF, hR, if_true] at hb
    have O3 : Hid (w3.ownsRow w.heap.size 58 64 vb n (bv (app F D))) := owns_rebase hb L.out.size
    replace BX := hide (BX.out.later hl)
    replace BR := hide (BR.out.later hl)
    replace L := hide (L.out.later hl)
    clear hl hb d0 d1 d2 d3 d4 M1
    obtain ⟨a3, c3, rfl⟩ := (Rw.of_owns O3.out).shape
    have M3 : Hid (Med w3 (.agg #[.slice a3 n c3, .slice none 0 0]) n (app F D) []) := ⟨_, _, rfl, Rw.of_owns O3.out, Rw.nil 65 _, fun d hd => by cases hd⟩
    have HX := hide (BX.out.setCells [.slice a3 n c3, .slice none 0 0] 0 (by simp))
    have M4 := hide (M3.out.setBox BX.out (tc_noints _ _ _ _ _ _ _ _ _) [.slice a3 n c3, .slice none 0 0] 0)
    have BR4 : Hid (Box (w3.setCells w.heap.size 0 [.slice a3 n c3, .slice none 0 0]) (w.heap.size + 1) 27 (tc (.slice none 0 0) (.slice none 0 0) false false false)) := BR.out.kept (heap_setCells_other w3 w.heap.size (w.heap.size + 1) (by omega) _ _)
    have L4 := hide (L.out.setCells (g := w.heap.size) (Nat.le_refl _) [.slice a3 n c3, .slice none 0 0] 0)
    have ht0 : Hid (w3.there w.heap.size 0 2) := BX.out.there 0 2 (by simp)
    have d0 := HX.out.cell 0
    have d1 := HX.out.cell 1
    have d2 := HX.out.cell 2
    have d3 := HX.out.cell 3
    have d4 := HX.out.cell 4
    have ht : Hid ((w3.setCells w.heap.size 0 [.slice a3 n c3, .slice none 0 0]).there (w.heap.size + 1) 0 5) := BR4.out.there 0 5 (by simp)
    have HE := hide (slot_set (p := p) (r := r) (l := l) (by omega) BR4.out (tc_noints _ _ _ _ _ _ _ _ _) rfl L4.out M4.out)
    clear HX M4 M3 L4 BX BR
    go_wp2_with (first
      | refine wpList_store_mid rfl 25 (.tmp 10) (.tmp 9) rfl w.heap.size 0 [.slice a3 n c3, .slice none 0 0].toArray rfl rfl ht0.out (zero_of_info Try.zero_medium).2 (by simp [Value.oneCell']) ?_
      | refine wpList_store_mid rfl 27 (.tmp 2) (.tmp 11) rfl (w.heap.size + 1) 0 (tc (.slice a3 n c3) (.slice none 0 0) p r l).toArray rfl rfl ht.out Try.info_slot (all_oneCell_toArray (tc_one _ _ _ _ _ _ _ _ _)) ?_)
    refine bodyPost_ret (results_cell1 rfl _ _ _ (w.heap.size + 1) 0 rfl (.agg #[.slice a3 n c3, .slice none 0 0, .bool p, .bool r, .bool l]) (shut5 HE.out.1 rfl)) rfl ⟨_, rfl, HE.out.2.1, ?_, fun g hg h => ⟨_, _, _, _, _, rfl, owns_off O3.out hg, trivial⟩⟩
    rw [hF.out.1, hF.out.2]
    exact Slt.mk' _ _ _ HE.out.2.2
  | false =>
    have hF : Hid (syncF n F D = F ∧ syncD n D = D) := by simp [Hid, syncF, syncD, hR]
    have ht : Hid (w2.there (w.heap.size + 1) 0 5) := BR.out.there 0 5 (by simp)
    have HE := hide (slot_set (p := p) (r := r) (l := l) (by omega) BR.out (tc_noints _ _ _ _ _ _ _ _ _) rfl L.out M1.out)
    go_wp2_with (refine wpList_store_mid rfl 27 (.tmp 2) (.tmp 11) rfl (w.heap.size + 1) 0 (tc (.slice ab n cb) (.slice aD k cD) p r l).toArray rfl rfl ht.out Try.info_slot (all_oneCell_toArray (tc_one _ _ _ _ _ _ _ _ _)) ?_)
    refine bodyPost_ret (results_cell1 rfl _ _ _ (w.heap.size + 1) 0 rfl (.agg #[.slice ab n cb, .slice aD k cD, .bool p, .bool r, .bool l]) (shut5 HE.out.1 rfl)) rfl ⟨_, rfl, HE.out.2.1, ?_, fun g hg h => h⟩
    rw [hF.out.1, hF.out.2]
    exact Slt.mk' _ _ _ HE.out.2.2
end Go.Proofs.Ytbcikndebaeahaa
