import Derived.Test.YtphgjofiploahaaL3I
namespace Go.Proofs.Ytphgjofiploahaa
open Go.ChangeShapes Go.WideShapes Go.ChangeAt Go.RowKit
set_option linter.unusedVariables false
set_option linter.unusedSimpArgs false

theorem two_ints {v : Value} (h : RArr .i64 2 v) : ∃ x y : Int, v = .agg #[.int .i64 x, .int .i64 y] ∧ (-9223372036854775808 ≤ x ∧ x ≤ 9223372036854775807) ∧ -9223372036854775808 ≤ y ∧ y ≤ 9223372036854775807 := by
  obtain ⟨zs, hl, rfl, hw⟩ := h
  match zs, hl with
  | [x, y], _ => exact ⟨x, y, by simp, bounds_i64 (hw x (by simp)), bounds_i64 (hw y (by simp))⟩

set_option maxRecDepth 20000 in
set_option maxHeartbeats 2000000 in
theorem cacheFlushes_walk (hal : Alive3) (iF : IFlush) (iL : ILose) (v0 v1 v2 : Value) (w : World) (h0 : RMed w v0) (h1 : RArr .i64 2 v1) (h2 : RInt .u64 v2) :
    Calls Try.prog 4 #[v0, v1, v2] w fun e w' => e = .returned (.bool true) ∧ Below w.heap.size w w' := by
  obtain ⟨n, F, D, hm⟩ := h0
  obtain ⟨x, y, rfl, hx, hy⟩ := two_ints h1
  obtain ⟨mk, hmk, rfl⟩ : ∃ a : Nat, a ≤ 18446744073709551615 ∧ v2 = .int .u64 (a : Int) := by
    obtain ⟨x, rfl, wx⟩ := h2
    have hx := bounds_u64 wx
    obtain ⟨y, rfl⟩ := Int.eq_ofNat_of_zero_le hx.1
    exact ⟨y, by omega, rfl⟩
  have M := hide hm
  obtain ⟨ab, cb, aD, k, cD, rfl, HK, hn, hk⟩ := hm.shape
  clear hm h1 h2
  have BM := hide ((Box.new w 25 #[.slice ab n cb, .slice aD k cD]).alloc (.cells #[.int .i64 x, .int .i64 y] 42))
  have BT := hide (Box.new' (w.alloc (.cells #[.slice ab n cb, .slice aD k cD] 25)) 42 #[.int .i64 x, .int .i64 y] [.int .i64 x, .int .i64 y] rfl (w.heap.size + 1) (by simp))
  have L := hide (((Later.refl w).alloc (.cells #[.slice ab n cb, .slice aD k cD] 25)).alloc (.cells #[.int .i64 x, .int .i64 y] 42))
  go_enter Try.func4, Try.ntmps4
  go_wp2_with fail
  refine (hal _).mono ?_
  rintro e w1 ⟨rfl, hl⟩
  replace BM := hide (BM.out.later hl)
  replace BT := hide (BT.out.later hl)
  replace L := hide (L.out.later hl)
  clear hl
  have m0 := BM.out.cell 0
  have m1 := BM.out.cell 1
  go_wp2_with fail
  refine (rgreat_c _ (M.out.later L.out)).mono ?_
  clear m0 m1
  rintro e w2 ⟨rfl, hl⟩
  replace BM := hide (BM.out.later hl)
  replace BT := hide (BT.out.later hl)
  replace L := hide (L.out.later hl)
  clear hl
  by_cases hg : greatB n D = true
  · rw [hg]
    go_wp2
    go_ret
    exact ⟨rfl, L.out⟩
  have hg' : greatB n D = false := by simpa using hg
  rw [hg']
  have hnk : n ≤ 70 ∧ k ≤ 70 := by have := HK.out; simp [greatB] at hg'; omega
  clear hg hg'
  have m0 := BM.out.cell 0
  have m1 := BM.out.cell 1
  go_wp2_with fail
  refine (rcopy3_c _ (M.out.later L.out) (by omega) (by have := HK.out; omega)).mono ?_
  clear m0 m1
  rintro e w3 ⟨v3, rfl, hl, hA⟩
  replace BM := hide (BM.out.later hl)
  replace BT := hide (BT.out.later hl)
  replace L := hide (L.out.later hl)
  have O := hide hA
  obtain ⟨p3, c3, q3, k3, d3, rfl, HK3, hn3, hk3⟩ := hA.shape
  clear hA hl
  go_wp2_with (refine wpList_newM rfl rfl rfl 7 rfl (by simp) (.tmp 21) (by simp) rfl p3 q3 _ c3 k3 d3 rfl ?_)
  intro g3 w4 hB hl hg
  replace BM := hide (BM.out.later hl)
  replace BT := hide (BT.out.later hl)
  replace L := hide (L.out.later hl)
  replace O := hide (O.out.later hl)
  have BO := hide hB
  clear hl hB hg
  have m0 := BO.out.cell 0
  have m1 := BO.out.cell 1
  have t0 := BT.out.cell 0
  have t1 := BT.out.cell 1
  go_wp2_with fail
  refine (iF _ _ _ _ x y _ O.out hx.1 hx.2 hy.1 hy.2).mono ?_
  clear m0 m1 t0 t1
  rintro e w5 ⟨v5, rfl, hl, hA⟩
  replace BM := hide (BM.out.later hl)
  replace BT := hide (BT.out.later hl)
  replace L := hide (L.out.later hl)
  replace O := hide (O.out.later hl)
  replace BO := hide (BO.out.later hl)
  have A := hide hA
  obtain ⟨p5, c5, q5, k5, d5, rfl, HK5, hn5, hk5⟩ := hA.shape
  clear hA hl
  go_wp2_with (refine wpList_newM rfl rfl rfl 8 rfl (by simp) (.tmp 29) (by simp) rfl p5 q5 _ c5 k5 d5 rfl ?_)
  intro g5 w6 hB hl hg
  replace BM := hide (BM.out.later hl)
  replace BT := hide (BT.out.later hl)
  replace L := hide (L.out.later hl)
  replace O := hide (O.out.later hl)
  replace BO := hide (BO.out.later hl)
  replace A := hide (A.out.later hl)
  have BA := hide hB
  clear hl hB hg
  have m0 := BM.out.cell 0
  have m1 := BM.out.cell 1
  have t0 := BT.out.cell 0
  have t1 := BT.out.cell 1
  go_wp2_with fail
  refine (rflush_c x y _ (M.out.later L.out) hx.1 hx.2 hy.1 hy.2).mono ?_
  clear m0 m1 t0 t1
  rintro e w7 ⟨v7, rfl, hl, hA⟩
  replace BM := hide (BM.out.later hl)
  replace BT := hide (BT.out.later hl)
  replace L := hide (L.out.later hl)
  replace O := hide (O.out.later hl)
  replace BO := hide (BO.out.later hl)
  replace A := hide (A.out.later hl)
  replace BA := hide (BA.out.later hl)
  have B := hide hA
  obtain ⟨p7, c7, q7, k7, d7, rfl, HK7, hn7, hk7⟩ := hA.shape
  clear hA hl
  go_wp2_with (refine wpList_newM rfl rfl rfl 10 rfl (by simp) (.tmp 38) (by simp) rfl p7 q7 _ c7 k7 d7 rfl ?_)
  intro g7 w8 hB hl hg
  replace BM := hide (BM.out.later hl)
  replace BT := hide (BT.out.later hl)
  replace L := hide (L.out.later hl)
  replace O := hide (O.out.later hl)
  replace BO := hide (BO.out.later hl)
  replace A := hide (A.out.later hl)
  replace BA := hide (BA.out.later hl)
  replace B := hide (B.out.later hl)
  have BB := hide hB
  clear hl hB hg
  have m0 := BO.out.cell 0
  have m1 := BO.out.cell 1
  go_wp2_with fail
  refine (iL _ _ _ _ mk _ O.out hmk).mono ?_
  clear m0 m1
  rintro e w9 ⟨v9, rfl, hl, hA⟩
  replace BM := hide (BM.out.later hl)
  replace BT := hide (BT.out.later hl)
  replace L := hide (L.out.later hl)
  replace O := hide (O.out.later hl)
  replace BO := hide (BO.out.later hl)
  replace A := hide (A.out.later hl)
  replace BA := hide (BA.out.later hl)
  replace B := hide (B.out.later hl)
  replace BB := hide (BB.out.later hl)
  have C := hide hA
  obtain ⟨p9, c9, q9, k9, d9, rfl, HK9, hn9, hk9⟩ := hA.shape
  clear hA hl
  go_wp2_with (refine wpList_newM rfl rfl rfl 12 rfl (by simp) (.tmp 44) (by simp) rfl p9 q9 _ c9 k9 d9 rfl ?_)
  intro g9 wa hB hl hg
  replace BM := hide (BM.out.later hl)
  replace BT := hide (BT.out.later hl)
  replace L := hide (L.out.later hl)
  replace O := hide (O.out.later hl)
  replace BO := hide (BO.out.later hl)
  replace A := hide (A.out.later hl)
  replace BA := hide (BA.out.later hl)
  replace B := hide (B.out.later hl)
  replace BB := hide (BB.out.later hl)
  replace C := hide (C.out.later hl)
  have BC := hide hB
  clear hl hB hg
  have m0 := BM.out.cell 0
  have m1 := BM.out.cell 1
  go_wp2_with fail
  refine (rlose_c mk _ (M.out.later L.out) hmk).mono ?_
  clear m0 m1
  rintro e wb ⟨v11, rfl, hl, hA⟩
  replace BM := hide (BM.out.later hl)
  replace BT := hide (BT.out.later hl)
  replace L := hide (L.out.later hl)
  replace O := hide (O.out.later hl)
  replace BO := hide (BO.out.later hl)
  replace A := hide (A.out.later hl)
  replace BA := hide (BA.out.later hl)
  replace B := hide (B.out.later hl)
  replace BB := hide (BB.out.later hl)
  replace C := hide (C.out.later hl)
  replace BC := hide (BC.out.later hl)
  have E := hide hA
  obtain ⟨p11, c11, q11, k11, d11, rfl, HK11, hn11, hk11⟩ := hA.shape
  clear hA hl
  go_wp2_with (refine wpList_newM rfl rfl rfl 14 rfl (by simp) (.tmp 50) (by simp) rfl p11 q11 _ c11 k11 d11 rfl ?_)
  intro g11 wc hB hl hg
  replace BM := hide (BM.out.later hl)
  replace BT := hide (BT.out.later hl)
  replace L := hide (L.out.later hl)
  replace O := hide (O.out.later hl)
  replace BO := hide (BO.out.later hl)
  replace A := hide (A.out.later hl)
  replace BA := hide (BA.out.later hl)
  replace B := hide (B.out.later hl)
  replace BB := hide (BB.out.later hl)
  replace C := hide (C.out.later hl)
  replace BC := hide (BC.out.later hl)
  replace E := hide (E.out.later hl)
  have BE := hide hB
  clear hl hB hg
  have m0 := BA.out.cell 0
  have m1 := BA.out.cell 1
  have m2 := BB.out.cell 0
  have m3 := BB.out.cell 1
  go_wp2_with fail
  refine (rsame3_c _ A.out B.out).mono ?_
  clear m0 m1 m2 m3
  rintro e wd ⟨rfl, hl⟩
  replace BM := hide (BM.out.later hl)
  replace L := hide (L.out.later hl)
  replace O := hide (O.out.later hl)
  replace BO := hide (BO.out.later hl)
  replace C := hide (C.out.later hl)
  replace BC := hide (BC.out.later hl)
  replace E := hide (E.out.later hl)
  replace BE := hide (BE.out.later hl)
  clear hl
  rw [show ((flushF n F D x y == flushF n F D x y) && (flushD n D x y == flushD n D x y)) = true from by simp]
  have m0 := BC.out.cell 0
  have m1 := BC.out.cell 1
  have m2 := BE.out.cell 0
  have m3 := BE.out.cell 1
  go_wp2_with fail
  refine (rsame3_c _ C.out E.out).mono ?_
  clear m0 m1 m2 m3
  rintro e we ⟨rfl, hl⟩
  replace BM := hide (BM.out.later hl)
  replace L := hide (L.out.later hl)
  replace O := hide (O.out.later hl)
  replace BO := hide (BO.out.later hl)
  clear hl
  rw [show ((loseF n F D mk == loseF n F D mk) && (([] : List Drt) == [])) = true from by simp]
  have m0 := BO.out.cell 0
  have m1 := BO.out.cell 1
  have m2 := BM.out.cell 0
  have m3 := BM.out.cell 1
  go_wp2_with fail
  refine (rsame3_c _ O.out (M.out.later L.out)).mono ?_
  clear m0 m1 m2 m3
  rintro e wf ⟨rfl, hl⟩
  replace L := hide (L.out.later hl)
  clear hl
  rw [show ((F == F) && (D == D)) = true from by simp]
  go_wp2_with fail
  go_ret
  exact ⟨rfl, L.out⟩
end Go.Proofs.Ytphgjofiploahaa
