import Derived.Test.YtphgjofiploahaaL3I
import Derived.Test.YtphgjofiploahaaL3P
namespace Go.Proofs.Ytphgjofiploahaa
open Go.ChangeShapes Go.WideShapes Go.ChangeAt Go.RowKit
set_option linter.unusedVariables false
set_option linter.unusedSimpArgs false

theorem Med.blocks {w : World} {vb vd : Value} {n : Nat} {F : List UInt8} {D : List Drt} (h : Med w (.agg #[vb, vd]) n F D) : Rw 64 w vb n (bv F) := by
  obtain ⟨x, y, e, hb, _⟩ := h
  simp at e
  obtain ⟨rfl, rfl⟩ := e
  exact hb
theorem Med.dirty {w : World} {vb vd : Value} {n : Nat} {F : List UInt8} {D : List Drt} (h : Med w (.agg #[vb, vd]) n F D) : Rw 65 w vd D.length (dv D) := by
  obtain ⟨x, y, e, _, hd, _⟩ := h
  simp at e
  obtain ⟨rfl, rfl⟩ := e
  exact hd

set_option maxRecDepth 20000 in
set_option maxHeartbeats 2000000 in
theorem cacheShows_walk (hal : Alive3) (iR : IRight) (iF : IFlush) (iL : ILose) (iA : IAll) (v0 v1 v2 : Value) (w : World) (h0 : RMed w v0) (h1 : RInt .i64 v1) (h2 : RInt .i64 v2) :
    Calls Try.prog 5 #[v0, v1, v2] w fun e w' => e = .returned (.bool true) ∧ Below w.heap.size w w' := by
  obtain ⟨n, F, D, hm⟩ := h0
  obtain ⟨x, rfl, wx⟩ := h1
  obtain ⟨y, rfl, wy⟩ := h2
  have hx := bounds_i64 wx
  have hy := bounds_i64 wy
  have M := hide hm
  have HF := hide hm.flat
  obtain ⟨ab, cb, aD, k, cD, rfl, HK, hn, hk⟩ := hm.shape
  clear hm wx wy
  have BM := hide (Box.new w 25 #[.slice ab n cb, .slice aD k cD])
  have L := hide ((Later.refl w).alloc (.cells #[.slice ab n cb, .slice aD k cD] 25))
  go_enter Try.func5, Try.ntmps5
  go_wp2_with fail
  refine (hal _).mono ?_
  rintro e w1 ⟨rfl, hl⟩
  replace BM := hide (BM.out.later hl)
  replace L := hide (L.out.later hl)
  clear hl
  have m0 := BM.out.cell 0
  have m1 := BM.out.cell 1
  go_wp2_with fail
  refine (rgreat_c _ (M.out.later L.out)).mono ?_
  clear m0 m1
  rintro e w2 ⟨rfl, hl⟩
  replace BM := hide (BM.out.later hl)
  replace L := hide (L.out.later hl)
  clear hl
  by_cases hg : greatB n D = true
  · rw [hg]
    go_wp2
    go_ret
    exact ⟨rfl, L.out⟩
  have hg' : greatB n D = false := by simpa using hg
  rw [hg']
  clear hg hg'
  have m0 := BM.out.cell 0
  have m1 := BM.out.cell 1
  go_wp2_with fail
  refine (rright_c _ (M.out.later L.out)).mono ?_
  clear m0 m1
  rintro e w3 ⟨rfl, hl⟩
  replace BM := hide (BM.out.later hl)
  replace L := hide (L.out.later hl)
  clear hl
  by_cases hR : rightB n D = true
  case neg =>
    have hR' : rightB n D = false := by simpa using hR
    rw [hR']
    go_wp2
    go_ret
    exact ⟨rfl, L.out⟩
  rw [hR]
  have HR := hide hR
  have F0 := hide (flush0 (F := F) hR HF.out.2)
  have eN : allN n D = n := by simp [allN, hR]
  have eF : allF n F D = app F D := by simp [allF, hR]
  have hn64 : n ≤ 64 := ((right_iff n D).1 hR).1
  clear hR
  have m0 := BM.out.cell 0
  have m1 := BM.out.cell 1
  go_wp2_with fail
  refine (iA _ _ _ _ _ (M.out.later L.out)).mono ?_
  rintro e w4 ⟨va, rfl, hl, hA⟩
  replace BM := hide (BM.out.later hl)
  replace L := hide (L.out.later hl)
  rw [eN, eF] at hA
  have R := hide hA
  obtain ⟨a4, c4, rfl⟩ := hA.shape
  clear hA hl m0 m1 eN eF
  have m0 := BM.out.cell 0
  have m1 := BM.out.cell 1
  go_wp2_with fail
  refine (iF _ _ _ _ x y _ (M.out.later L.out) hx.1 hx.2 hy.1 hy.2).mono ?_
  clear m0 m1
  rintro e w5 ⟨v5, rfl, hl, hA⟩
  replace BM := hide (BM.out.later hl)
  replace L := hide (L.out.later hl)
  replace R := hide (R.out.later hl)
  have X := hide hA
  obtain ⟨p5, c5, q5, k5, d5, rfl, HK5, hn5, hk5⟩ := hA.shape
  clear hA hl
  go_wp2_with (refine wpList_newM rfl rfl rfl 8 rfl (by simp) (.tmp 32) (by simp) rfl p5 q5 _ c5 k5 d5 rfl ?_)
  intro g5 w6 hB hl hg
  replace BM := hide (BM.out.later hl)
  replace L := hide (L.out.later hl)
  replace R := hide (R.out.later hl)
  replace X := hide (X.out.later hl)
  have BX := hide hB
  clear hl hB hg
  by_cases he : flushE n D x y = 0
  case neg =>
    have he5 : flushE n D x y = 5 := by
      have h1 := he
      simp only [flushE, HR.out, if_true] at h1 ⊢
      split at h1
      · exact absurd rfl h1
      · rename_i h2; rw [if_neg h2]
    have hN : flushN n D x y = 0 := by simp [flushN, he5]
    rw [hN] at BX
    have m0 := BX.out.cell 0
    rw [he5]
    go_wp2
    go_ret
    exact ⟨rfl, L.out⟩
  have Fs := hide (flush_shows (F := F) x y HR.out HF.out.2 HF.out.1 he)
  rw [he]
  rw [Fs.out.2.1] at X BX
  clear he
  have m0 := BM.out.cell 0
  have m1 := BM.out.cell 1
  go_wp2_with fail
  have hc := iF _ _ _ _ 0 0 _ (M.out.later L.out) (by decide) (by decide) (by decide) (by decide)
  rw [F0.out.1, F0.out.2.1, F0.out.2.2.1, F0.out.2.2.2] at hc
  refine hc.mono ?_
  clear hc m0 m1
  rintro e w7 ⟨v7, rfl, hl, hA⟩
  replace BM := hide (BM.out.later hl)
  replace L := hide (L.out.later hl)
  replace R := hide (R.out.later hl)
  replace X := hide (X.out.later hl)
  replace BX := hide (BX.out.later hl)
  have Y := hide hA
  obtain ⟨p7, c7, q7, k7, d7, rfl, HK7, hn7, hk7⟩ := hA.shape
  clear hA hl
  go_wp2_with (refine wpList_newM rfl rfl rfl 10 rfl (by simp) (.tmp 47) (by simp) rfl p7 q7 _ c7 k7 d7 rfl ?_)
  intro g7 w8 hB hl hg
  replace BM := hide (BM.out.later hl)
  replace L := hide (L.out.later hl)
  replace R := hide (R.out.later hl)
  replace X := hide (X.out.later hl)
  replace BX := hide (BX.out.later hl)
  replace Y := hide (Y.out.later hl)
  have BY := hide hB
  clear hl hB hg
  have LN := fun mask => lose_nil n (app F D) mask (right_nil HR.out)
  have HLN := hide LN
  clear LN
  have m0 := BY.out.cell 0
  have m1 := BY.out.cell 1
  go_wp2_with fail
  have hc := iL _ _ _ _ 18446744073709551615 _ Y.out (by decide)
  rw [(HLN.out 0).1, (HLN.out 0).2.1, (HLN.out _).2.2] at hc
  refine hc.mono ?_
  clear hc m0 m1
  rintro e w9 ⟨v9, rfl, hl, hA⟩
  replace BM := hide (BM.out.later hl)
  replace L := hide (L.out.later hl)
  replace R := hide (R.out.later hl)
  replace X := hide (X.out.later hl)
  replace BX := hide (BX.out.later hl)
  replace Y := hide (Y.out.later hl)
  replace BY := hide (BY.out.later hl)
  have Z := hide hA
  obtain ⟨p9, c9, q9, k9, d9, rfl, HK9, hn9, hk9⟩ := hA.shape
  clear hA hl
  go_wp2_with (refine wpList_newM rfl rfl rfl 12 rfl (by simp) (.tmp 52) (by simp) rfl p9 q9 _ c9 k9 d9 rfl ?_)
  intro g9 wa hB hl hg
  replace BM := hide (BM.out.later hl)
  replace L := hide (L.out.later hl)
  replace R := hide (R.out.later hl)
  replace X := hide (X.out.later hl)
  replace BX := hide (BX.out.later hl)
  replace Y := hide (Y.out.later hl)
  replace BY := hide (BY.out.later hl)
  replace Z := hide (Z.out.later hl)
  have BZ := hide hB
  clear hl hB hg
  have m0 := BY.out.cell 0
  have m1 := BY.out.cell 1
  go_wp2_with fail
  have hc := iL _ _ _ _ 0 _ Y.out (by decide)
  rw [(HLN.out 0).1, (HLN.out 0).2.1, (HLN.out _).2.2] at hc
  refine hc.mono ?_
  clear hc m0 m1
  rintro e wb ⟨v11, rfl, hl, hA⟩
  replace BM := hide (BM.out.later hl)
  replace L := hide (L.out.later hl)
  replace R := hide (R.out.later hl)
  replace X := hide (X.out.later hl)
  replace BX := hide (BX.out.later hl)
  replace Y := hide (Y.out.later hl)
  replace BY := hide (BY.out.later hl)
  replace Z := hide (Z.out.later hl)
  replace BZ := hide (BZ.out.later hl)
  have V := hide hA
  obtain ⟨p11, c11, q11, k11, d11, rfl, HK11, hn11, hk11⟩ := hA.shape
  clear hA hl
  go_wp2_with (refine wpList_newM rfl rfl rfl 14 rfl (by simp) (.tmp 57) (by simp) rfl p11 q11 _ c11 k11 d11 rfl ?_)
  intro g11 wc hB hl hg
  replace BM := hide (BM.out.later hl)
  replace L := hide (L.out.later hl)
  replace R := hide (R.out.later hl)
  replace X := hide (X.out.later hl)
  replace BX := hide (BX.out.later hl)
  replace Y := hide (Y.out.later hl)
  replace BY := hide (BY.out.later hl)
  replace Z := hide (Z.out.later hl)
  replace BZ := hide (BZ.out.later hl)
  replace V := hide (V.out.later hl)
  have BV := hide hB
  clear hl hB hg
  have m0 := BX.out.cell 0
  have m1 := BX.out.cell 1
  go_wp2_with fail
  have hc := iR _ _ _ _ _ X.out
  rw [Fs.out.1] at hc
  refine hc.mono ?_
  clear hc m0 m1
  rintro e wd ⟨rfl, hl⟩
  replace BM := hide (BM.out.later hl)
  replace L := hide (L.out.later hl)
  replace R := hide (R.out.later hl)
  replace X := hide (X.out.later hl)
  replace BX := hide (BX.out.later hl)
  replace Y := hide (Y.out.later hl)
  replace BY := hide (BY.out.later hl)
  replace Z := hide (Z.out.later hl)
  replace BZ := hide (BZ.out.later hl)
  replace V := hide (V.out.later hl)
  replace BV := hide (BV.out.later hl)
  clear hl
  have m0 := BX.out.cell 0
  have m1 := BX.out.cell 1
  go_wp2_with fail
  have hc := iA _ _ _ _ _ X.out
  have e1 : allN n (flushD n D x y) = n := by simp [allN, Fs.out.1]
  have e2 : allF n (flushF n F D x y) (flushD n D x y) = app F D := by simp [allF, Fs.out.1, Fs.out.2.2]
  rw [e1, e2] at hc
  refine hc.mono ?_
  rintro e we ⟨ve, rfl, hl, hA⟩
  clear hc m0 m1 e1 e2
  replace BM := hide (BM.out.later hl)
  replace L := hide (L.out.later hl)
  replace R := hide (R.out.later hl)
  replace X := hide (X.out.later hl)
  replace BX := hide (BX.out.later hl)
  replace Y := hide (Y.out.later hl)
  replace BY := hide (BY.out.later hl)
  replace Z := hide (Z.out.later hl)
  replace BZ := hide (BZ.out.later hl)
  replace V := hide (V.out.later hl)
  replace BV := hide (BV.out.later hl)
  obtain ⟨ae, ce, rfl⟩ := hA.shape
  go_wp2_with fail
  refine (rsame_c _ hA R.out).mono ?_
  rw [show (app F D == app F D) = true from by simp]
  clear hA hl
  rintro e wf ⟨rfl, hl⟩
  replace BM := hide (BM.out.later hl)
  replace L := hide (L.out.later hl)
  replace R := hide (R.out.later hl)
  replace Y := hide (Y.out.later hl)
  replace BY := hide (BY.out.later hl)
  replace Z := hide (Z.out.later hl)
  replace BZ := hide (BZ.out.later hl)
  replace V := hide (V.out.later hl)
  replace BV := hide (BV.out.later hl)
  clear hl
  have m0 := BY.out.cell 0
  go_wp2_with fail
  refine (rsame_c _ Y.out.blocks R.out).mono ?_
  rw [show (app F D == app F D) = true from by simp]
  clear m0
  rintro e wg ⟨rfl, hl⟩
  replace BM := hide (BM.out.later hl)
  replace L := hide (L.out.later hl)
  replace R := hide (R.out.later hl)
  replace Y := hide (Y.out.later hl)
  replace BY := hide (BY.out.later hl)
  replace Z := hide (Z.out.later hl)
  replace BZ := hide (BZ.out.later hl)
  replace V := hide (V.out.later hl)
  replace BV := hide (BV.out.later hl)
  clear hl
  have m1 := BY.out.cell 1
  have m0 := BZ.out.cell 0
  have hk0 : k7 = 0 := HK7.out
  subst hk0
  go_wp2_with fail
  refine (rsame_c _ Z.out.blocks R.out).mono ?_
  rw [show (app F D == app F D) = true from by simp]
  clear m0 m1
  rintro e wh ⟨rfl, hl⟩
  replace L := hide (L.out.later hl)
  replace R := hide (R.out.later hl)
  replace V := hide (V.out.later hl)
  replace BV := hide (BV.out.later hl)
  clear hl
  have m0 := BV.out.cell 0
  go_wp2_with fail
  refine (rsame_c _ V.out.blocks R.out).mono ?_
  rw [show (app F D == app F D) = true from by simp]
  clear m0
  rintro e wi ⟨rfl, hl⟩
  replace L := hide (L.out.later hl)
  clear hl
  go_wp2_with fail
  go_ret
  exact ⟨rfl, L.out⟩
end Go.Proofs.Ytphgjofiploahaa
