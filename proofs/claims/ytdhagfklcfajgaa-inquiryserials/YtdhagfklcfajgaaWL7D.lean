import Derived.Test.YtdhagfklcfajgaaMAM
namespace Go.Proofs.Ytdhagfklcfajgaa
open Go.ChangeShapes Go.WideShapes Go.ChangeAt Go.RowKit
set_option linter.unusedVariables false
set_option linter.unusedSimpArgs false

theorem Bs.addr7 {w : World} {v : Value} {l : List UInt8} (h : Bs w v l) (hp : 0 < l.length) : ∃ b off cap, v = .slice (some ⟨b, off, none⟩) l.length cap ∧ l.length ≤ cap := by
  obtain ⟨h1, ad, cap, e, h2, h3⟩ := h
  rcases h3 with h3 | ⟨b, off, e2, h3⟩
  · rw [h3] at hp; simp at hp
  · subst e2; exact ⟨b, off, cap, e, h2⟩
theorem Bs.drop7 {w : World} {b off n cap : Nat} {l : List UInt8} (h : Bs w (.slice (some ⟨b, off, none⟩) n cap) l) (k m : Nat) (hk : k + m = n) : Bs w (.slice (some ⟨b, off + k, none⟩) m (cap - k)) (l.drop k) := by
  obtain ⟨h1, ad, cap', e, h2, h3⟩ := h
  simp at e
  obtain ⟨rfl, rfl, rfl⟩ := e
  have hl : (l.drop k).length = m := by simp; omega
  refine ⟨by rw [hl]; omega, _, _, by rw [hl], by rw [hl]; omega, .inr ⟨b, off + k, rfl, fun j hj => ?_⟩⟩
  rw [hl] at hj
  rcases h3 with h3 | ⟨b', off', e, h3⟩
  · rw [h3] at hk; simp at hk; omega
  · simp at e
    obtain ⟨rfl, rfl⟩ := e
    rw [show off + k + j = off + (k + j) by omega, h3 (k + j) (by omega), List.getElem_drop]
theorem str_list (l : List UInt8) : (strOf l).toList = l := by rw [ByteArray.toList_eq]; simp [strOf]
theorem ser_same (a b : Int) : ((strOf (serL a)).toList == (strOf (serL b)).toList) = (a % 8 == b % 8) := by
  have h : ∀ x y : Fin 8, (([82, 84, 48, 48, 48, 48, 48, UInt8.ofNat (48 + x.val)] : List UInt8) == [82, 84, 48, 48, 48, 48, 48, UInt8.ofNat (48 + y.val)]) = (x.val == y.val) := by decide
  have := h ⟨(a % 8).toNat, by omega⟩ ⟨(b % 8).toNat, by omega⟩
  simp only at this
  rw [str_list, str_list]
  unfold serL
  rw [this]
  by_cases hh : a % 8 = b % 8
  · simp [hh]
  · have h2 : (a % 8).toNat ≠ (b % 8).toNat := by omega
    rw [beq_eq_false_iff_ne.2 hh, beq_eq_false_iff_ne.2 h2]
theorem page83 (a : Int) : pageL 131 a true = [0, 131, 0, 20, 2, 1, 0, 16, 82, 69, 84, 73, 67, 85, 76, 69] ++ serL a := rfl
set_option maxHeartbeats 2000000 in
theorem inquirySerials_walk (hal : Alive7) (iP : IPage7) (iS : ISerial7) (a b : Int) (w : World) (h1 : In64 a) (h2 : In64 b) :
    Calls Try.prog 6 #[.int .i64 a, .int .i64 b] w fun e w' => e = .returned (.bool true) ∧ Below w.heap.size w w' := by
  have H1 := hide h1
  have H2 := hide h2
  clear h1 h2
  go_enter Try.func6, Try.ntmps6
  go_wp2_with fail
  refine (hal _).mono ?_
  rintro e w1 ⟨rfl, hl⟩
  have LL := hide hl
  clear hl
  go_wp2_with fail
  refine (iP 131 a true _ (by decide) H1.out).mono ?_
  rintro e w2 ⟨va, rfl, hl, ha⟩
  replace LL := hide (LL.out.trans hl)
  rw [page83] at ha
  obtain ⟨b1, o1, c1, rfl, hc⟩ := ha.addr7 (by simp [serL_len])
  have hlen : ([0, 131, 0, 20, 2, 1, 0, 16, 82, 69, 84, 73, 67, 85, 76, 69] ++ serL a).length = 24 := rfl
  rw [hlen] at ha hc ⊢
  have VA : Hid (Bs w2 (.slice (some ⟨b1, o1 + 16, none⟩) 8 (c1 - 16)) (serL a)) := ha.drop7 16 8 rfl
  clear hl ha hlen
  have hps : pageS 131 = (0, 0, 0) := rfl
  rw [hps]
  clear hps
  have hc1 : (24 : Int) ≤ (c1 : Int) := by omega
  go_wp2_with (refine wpList_newAS rfl rfl rfl rfl 6 5 rfl rfl (by simp) (by decide) (.tmp 14) (.tmp 15) (by simp) (by simp) (by simp) rfl rfl rfl _ (0, 0, 0) rfl rfl ?_)
  intro g8 w3 hB hl hg
  replace VA := hide (VA.out.later hl)
  replace LL := hide (LL.out.trans hl)
  have B8 := hide hB
  clear hl hg hB
  go_wp2_with fail
  refine (iS a _ H1.out).mono ?_
  rintro e w4 ⟨rfl, hl⟩
  replace VA := hide (VA.out.later hl)
  replace B8 := hide (B8.out.later hl)
  replace LL := hide (LL.out.trans hl)
  clear hl
  go_wp2_with fail
  refine (iS b _ H2.out).mono ?_
  rintro e w5 ⟨rfl, hl⟩
  replace VA := hide (VA.out.later hl)
  replace B8 := hide (B8.out.later hl)
  replace LL := hide (LL.out.trans hl)
  clear hl
  have s0 := B8.out.cell 0
  have s1 := B8.out.cell 1
  have s2 := B8.out.cell 2
  have gs := VA.out.strOf
  have hz : (strOf (serL a)).size = 8 := rfl
  have hq := ser_same a b
  have ha := i64_and7 a
  have hb := i64_and7 b
  obtain ⟨q, hq2⟩ : ∃ q, (a % 8 == b % 8) = q := ⟨_, rfl⟩
  rw [hq2] at hq
  generalize strOf (serL a) = sa at *
  generalize strOf (serL b) = sb at *
  generalize a % 8 = qa at *
  generalize b % 8 = qb at *
  go_wp2_with (refine wpList_neqS (by kernel_rfl) (.tmp 20) (.tmp 21) rfl (0, 0, 0) (0, 0, 0) rfl rfl ?_)
  go_wp2
  go_ret
  refine ⟨?_, LL.out⟩
  first | rfl | simp
end Go.Proofs.Ytdhagfklcfajgaa
