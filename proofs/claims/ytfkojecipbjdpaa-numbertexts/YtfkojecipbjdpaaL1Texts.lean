import Derived.Test.YtfkojecipbjdpaaL1Puts
namespace Go.Proofs.Ytfkojecipbjdpaa
open Go.ChangeShapes Go.WideShapes Go.ChangeAt Go.RowKit
set_option linter.unusedVariables false
set_option linter.unusedSimpArgs false

theorem textI_length (l : List UInt8) (n : Int) (h : 0 ≤ n) (h2 : n ≤ 1024) : ((textI l n).length : Int) = n := by
  have : isT n = true := by simp [isT, h, h2]
  simp [textI, this, textOf_length]; omega

set_option maxHeartbeats 1000000 in
theorem numberTexts_walk (v0 v1 : Value) (w : World) (h0 : RStr v0) (h1 : RInt .i64 v1) :
    Calls Try.prog 8 #[v0, v1] w fun e w' => e = .returned (.bool true) ∧ Below w.heap.size w w' := by
  obtain ⟨s, rfl, hs⟩ := h0
  obtain ⟨a1, rfl, w1⟩ := h1
  have hx := bounds_i64 w1
  clear w1
  obtain ⟨t, ht⟩ : ∃ t : ByteArray, t = ⟨(textI s.data.toList a1).toArray⟩ := ⟨_, rfl⟩
  have HT := hide ht
  clear ht
  have hs' := hs
  unfold maxLen at hs'
  go_enter Try.func8, Try.ntmps8
  go_wp2_with fail
  refine (alive_c _ w.heap.size (Nat.le_refl _)).mono ?_
  rintro e w1 ⟨rfl, hb1⟩
  by_cases hl : 2000 < s.size
  · go_wp2
    go_ret
    exact ⟨rfl, hb1⟩
  · go_wp2_with fail
    refine (text_c s a1 _ _ (Nat.le_refl _) hs).mono ?_
    rintro e w2 ⟨v2, rfl, hb2, ho2⟩
    have hbs := (Bs.of_owns ho2).1
    have hc2 := str_rg HT.out hbs (Later.refl _).drew
    have Hbs := hide hbs
    obtain ⟨hm, ad, cap, hv, hcap, _⟩ := hbs
    generalize hL : textI s.data.toList a1 = L at *
    have hlen : Hid (0 ≤ a1 → a1 ≤ 1024 → ((L.length : Nat) : Int) = a1) := by unfold Hid; rw [← hL]; exact textI_length s.data.toList a1
    have HL := hide hL
    clear hL
    subst hv
    have Ho2 := hide ho2
    have Hb2 := hide (hb1.trans (hb2.mono hb1.size))
    clear ho2 hb2 hb1
    unfold maxLen at hm
    have fin : ∀ w3, Later w2.drew w3 → Hid (Below w.heap.size w w3) := fun w3 h => Hb2.out.trans (Below.mono ((Later.refl w2).drew.trans h) Hb2.out.size)
    have Fin := hide fin
    clear fin
    go_wp2_with fail
    by_cases h0 : a1 < 0
    · have hd0 : decide (a1 < 0) = true := by simpa using h0
      refine wp_region_sched ((List.range 22).map fun i => (i, i == 4)) (by kernel_rfl) (by kernel_rfl) (by kernel_rfl) (by kernel_rfl) ?_
      simp only [List.range, List.range.loop, List.map]
      repeat (refine wpS_mild rfl (fun K hK => ?_); go_simp; refine hK _ ?_; clear hK K)
      refine wpS_loud rfl (fun K hK w3 hw3 => ?_)
      go_simp
      refine (rtext_c s a1 _ _ (Nat.le_refl _) hs).mono ?_
      rintro e w4 ⟨v4, rfl, hb4, ho4⟩
      refine ⟨_, rfl, hb4, hK _ _ ?_⟩
      clear hK K
      rw [HL.out] at ho4
      have hc4 := str_rg HT.out (Bs.of_owns ho4).1 (Later.refl _)
      have F4 := hide (hw3.trans hb4)
      clear ho4 hb4 hw3 hc2
      repeat (refine wpS_mild rfl (fun K hK => ?_); go_simp; refine hK _ ?_; clear hK K)
      refine wpS_nil (fun w5 hw5 => ?_)
      have F5 := Fin.out w5 (F4.out.trans hw5)
      clear hw5 F4 hc4
      go_wp2
      go_ret
      exact ⟨rfl, F5.out⟩
    · have hd0 : decide (a1 < 0) = false := by simpa using h0
      by_cases h1 : 1024 < a1
      · have hd1 : decide (1024 < a1) = true := by simpa using h1
        refine wp_region_sched ((List.range 22).map fun i => (i, i == 4)) (by kernel_rfl) (by kernel_rfl) (by kernel_rfl) (by kernel_rfl) ?_
        simp only [List.range, List.range.loop, List.map]
        repeat (refine wpS_mild rfl (fun K hK => ?_); go_simp; refine hK _ ?_; clear hK K)
        refine wpS_loud rfl (fun K hK w3 hw3 => ?_)
        go_simp
        refine (rtext_c s a1 _ _ (Nat.le_refl _) hs).mono ?_
        rintro e w4 ⟨v4, rfl, hb4, ho4⟩
        refine ⟨_, rfl, hb4, hK _ _ ?_⟩
        clear hK K
        rw [HL.out] at ho4
        have hc4 := str_rg HT.out (Bs.of_owns ho4).1 (Later.refl _)
        have F4 := hide (hw3.trans hb4)
        clear ho4 hb4 hw3 hc2
        repeat (refine wpS_mild rfl (fun K hK => ?_); go_simp; refine hK _ ?_; clear hK K)
        refine wpS_nil (fun w5 hw5 => ?_)
        have F5 := Fin.out w5 (F4.out.trans hw5)
        clear hw5 F4 hc4
        go_wp2
        go_ret
        exact ⟨rfl, F5.out⟩
      · have hd1 : decide (1024 < a1) = false := by simpa using h1
        have hle : ((L.length : Int) == a1) = true := by simpa using hlen.out (by omega) (by omega)
        refine wp_region_sched ((List.range 22).map fun i => (i, i == 4)) (by kernel_rfl) (by kernel_rfl) (by kernel_rfl) (by kernel_rfl) ?_
        simp only [List.range, List.range.loop, List.map]
        repeat (refine wpS_mild rfl (fun K hK => ?_); go_simp; refine hK _ ?_; clear hK K)
        refine wpS_loud rfl (fun K hK w3 hw3 => ?_)
        go_simp
        refine (rtext_c s a1 _ _ (Nat.le_refl _) hs).mono ?_
        rintro e w4 ⟨v4, rfl, hb4, ho4⟩
        refine ⟨_, rfl, hb4, hK _ _ ?_⟩
        clear hK K
        rw [HL.out] at ho4
        have hc4 := str_rg HT.out (Bs.of_owns ho4).1 (Later.refl _)
        have F4 := hide (hw3.trans hb4)
        clear ho4 hb4 hw3 hc2
        repeat (refine wpS_mild rfl (fun K hK => ?_); go_simp; refine hK _ ?_; clear hK K)
        refine wpS_nil (fun w5 hw5 => ?_)
        have F5 := Fin.out w5 (F4.out.trans hw5)
        clear hw5 F4 hc4
        go_wp2
        go_ret
        exact ⟨rfl, F5.out⟩
end Go.Proofs.Ytfkojecipbjdpaa
