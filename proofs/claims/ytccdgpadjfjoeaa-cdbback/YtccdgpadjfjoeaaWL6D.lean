import Derived.Test.YtccdgpadjfjoeaaWL6B
import Derived.Test.YtccdgpadjfjoeaaMAU
namespace Go.Proofs.Ytccdgpadjfjoeaa
open Go.ChangeShapes Go.WideShapes Go.ChangeAt Go.RowKit
set_option linter.unusedVariables false
set_option linter.unusedSimpArgs false

theorem parse_bad {l : List UInt8} (h : (parseI l).2 ≠ (0, 0, 0)) : (parseI l).1 = czero := by
  unfold parseI parseOp at *
  split
  · rfl
  split
  · rfl
  split
  · rfl
  split
  · rfl
  · rename_i h1 h2 h3 h4
    simp only [if_neg h1, if_neg h2, if_neg h3, if_neg h4] at h
    exact absurd rfl h
theorem known_range {op : Int} (h : knownB op = true) : 0 ≤ op ∧ op ≤ 175 := by
  rcases known_cases op with h1 | h1
  · omega
  · rw [(known_other h1).1] at h; cases h
theorem fitT_max (op : Int) : (fitT op).1 ≤ 18446744073709551615 ∧ (fitT op).2.2.1 ≤ 4294967295 := by
  rcases known_cases op with h | h
  · rcases h with rfl | rfl | rfl | rfl | rfl | rfl | rfl | rfl | rfl | rfl | rfl | rfl | rfl | rfl | rfl | rfl | rfl | rfl | rfl | rfl | rfl | rfl | rfl | rfl | rfl <;> decide
  · obtain ⟨h0, h3, h8, h10, h18, h21, h26, h27, h30, h37, h40, h42, h47, h53, h85, h90, h136, h138, h143, h145, h158, h160, h168, h170, h175⟩ := h
    simp [fitT, h3, h8, h10, h18, h21, h26, h27, h30, h40, h42, h47, h53, h85, h90, h136, h138, h143, h145, h158, h160, h168, h170, h175]
theorem fits_ok {c : Cmd} (h : fitsC c) : OkC c := by
  obtain ⟨hk, a, n2, n3, n4, e, hf⟩ := h
  have h1 := known_range hk
  have h2 := fitT_max c.1
  have h3 := fitT_le c.1
  obtain ⟨f1, f2, f3, f4, f5, _⟩ := hf
  unfold OkC
  rw [e]
  simp only
  omega
set_option maxRecDepth 20000 in
set_option maxHeartbeats 4000000 in
theorem cdbBack_ok (v0 v1 : Value) (w : World) (h0 : RBytes w v0) (h1 : RBytes w v1) :
    Calls Try.prog 5 #[v0, v1] w fun e w' => e = .returned (.bool true) ∧ Below w.heap.size w w' := by
  obtain ⟨l, hb⟩ := h0
  obtain ⟨m, hm⟩ := h1
  have HB := hide hb
  have HM := hide hm
  obtain ⟨hlm, al, cl, rfl, _, _⟩ := hb
  obtain ⟨hmm, am, cm, rfl, _, _⟩ := hm
  unfold maxLen at hlm hmm
  obtain ⟨n, hn⟩ : ∃ n, n = l.length := ⟨_, rfl⟩
  obtain ⟨k, hk⟩ : ∃ k, k = m.length := ⟨_, rfl⟩
  rw [← hn] at HB hlm ⊢
  rw [← hk] at HM hmm ⊢
  have HN := hide hn
  have HK := hide hk
  clear hn hk
  go_enter Try.func5, Try.ntmps5
  go_wp2_with fail
  refine (alive6_c _).mono ?_
  rintro e w1 ⟨rfl, hl⟩
  have LL := hide hl
  clear hl
  by_cases hA : 100 < n
  · have hAb : decide (100 < (n : Int)) = true := by simp; omega
    go_wp2
    go_ret
    exact ⟨rfl, LL.out⟩
  have hAb : decide (100 < (n : Int)) = false := by simp; omega
  by_cases hB : 100 < k
  · have hBb : decide (100 < (k : Int)) = true := by simp; omega
    go_wp2
    go_ret
    exact ⟨rfl, LL.out⟩
  have hBb : decide (100 < (k : Int)) = false := by simp; omega
  go_wp2_with fail
  refine (parse_c _ (HB.out.later LL.out)).mono ?_
  rintro e w2 ⟨rfl, hl⟩
  replace LL := hide (LL.out.trans hl)
  clear hl
  have HZ : Hid ((parseI l).2 ≠ (0, 0, 0) → (parseI l).1 = czero) := parse_bad
  have HF : Hid ((parseI l).2 = (0, 0, 0) → fitsC (parseI l).1 ∧ sizeN (parseI l).1.1 ≤ l.length) := fun h => ⟨parse_fit (Prod.ext rfl h), (parse_take [] h).2⟩
  generalize parseI l = p at *
  obtain ⟨C, S⟩ := p
  simp only at HZ HF ⊢
  go_wp2_with (refine wpList_newCS rfl rfl rfl rfl rfl rfl 5 6 rfl rfl (by simp) (by simp) (by decide) (.tmp 24) (.tmp 25) (by simp) (by simp) (by simp) (by simp) rfl rfl rfl rfl C S rfl rfl ?_)
  intro gA hA' wA hB1 hB2 hl hg
  replace LL := hide (LL.out.trans hl)
  have CA := hide hB1
  have SA := hide hB2
  clear hl hg hB1 hB2
  have a0 := CA.out.cell 0
  have a1 := CA.out.cell 1
  have a2 := CA.out.cell 2
  have a3 := CA.out.cell 3
  have a4 := CA.out.cell 4
  have c0 := SA.out.cell 0
  have c1 := SA.out.cell 1
  have c2 := SA.out.cell 2
  by_cases hS : S = (0, 0, 0)
  case neg =>
    have hC := HZ.out hS
    have HQ : Hid ((S == ((0, 0, 0) : Sns)) = false) := by rw [Hid, beq_eq_false_iff_ne]; exact hS
    clear hS HZ HF
    subst hC
    go_wp2_with (first | (refine wpList_neqS' (by kernel_rfl) (.tmp 26) (.tmp 27) rfl S (0, 0, 0) rfl rfl true (by rw [HQ.out]; rfl) ?_) | (refine wpList_eqC (by kernel_rfl) (.tmp 29) (.tmp 30) rfl czero czero rfl rfl true (by simp) ?_))
    go_ret
    exact ⟨rfl, LL.out⟩
  subst hS
  obtain ⟨hf, hsz⟩ := HF.out rfl
  have hok := fits_ok hf
  obtain ⟨hb1, hb2, hb3, hb4⟩ := bytes_fit hf
  have hp5 := (parse_take m (show (parseI (bytesI C)).2 = (0, 0, 0) from by rw [hb4])).1
  rw [hb4] at hp5
  have OK := hide hok
  have F1 := hide hb1
  have F2 := hide hb3
  have F3 := hide hp5
  have F4 := hide hsz
  have F5 : Hid (sizeN C.1 ≤ 16) := by obtain ⟨q, h1, h2⟩ := size_pos hf.1; rw [Hid]; omega
  clear hf hsz hok hb1 hb2 hb3 hb4 hp5 HZ HF
  go_wp2_with (refine wpList_neqS' (by kernel_rfl) (.tmp 26) (.tmp 27) rfl (0, 0, 0) (0, 0, 0) rfl rfl false (by rfl) ?_)
  refine (bytes_c C _ OK.out).mono ?_
  rintro e w3 ⟨vd, rfl, hl, hd⟩
  rw [F1.out]
  replace LL := hide (LL.out.trans hl)
  replace CA := hide (CA.out.later hl)
  replace SA := hide (SA.out.later hl)
  have VD := hide hd
  obtain ⟨_, ad, cd, rfl, _, _⟩ := hd
  clear hl a0 a1 a2 a3 a4 c0 c1 c2
  rw [F2.out] at VD ⊢
  generalize bytesI C = d at *
  obtain ⟨nd, hnd⟩ : ∃ nd, nd = sizeN C.1 := ⟨_, rfl⟩
  rw [← hnd] at VD F2 F4 F5 ⊢
  have HD := hide hnd
  have hnd16 : nd ≤ 16 := F5.out
  clear hnd F5
  have Ex : Hid ((w3.alloc (.cells #[] 5)).ownsRow w3.heap.size 5 1 (.slice (some ⟨w3.heap.size, 0, none⟩) 0 0) 0 (bv [])) := World.ownsRow_lit w3 #[] 0 (Nat.le_refl _) (by simp [maxLen]) rfl
  have LEx : Hid (Below w3.heap.size w3 (w3.alloc (.cells #[] 5))) := (Below.refl _ _).alloc (Nat.le_refl _) _
  have Ax : Hid (Bs (w3.alloc (.cells #[] 5)) (.slice ad nd cd) d) := VD.out.later LEx.out
  go_wp2_with (at_builtin; refine wpList_append_bs rfl (.tmp 38) (.tmp 39) rfl w3.heap.size _ 0 [] rfl Ex.out _ d rfl Ax.out ?nx ?sx w3 LEx.out ?_)
  case nx => rw [F2.out]; omega
  case sx => simp
  rintro vpx wpx opx bpx gpx
  clear gpx Ex LEx Ax
  have Opx := hide opx
  have Bpx := hide bpx
  have Mx := hide ((HM.out.later LL.out).later bpx)
  have szx := bpx.size
  clear opx bpx
  go_wp2_with (at_builtin; refine wpList_append_bs rfl (.tmp 40) (.tmp 41) rfl w3.heap.size _ d.length d rfl Opx.out _ m rfl Mx.out ?n2x ?s2x w3 Bpx.out ?_)
  case n2x => rw [F2.out]; have := HK.out; omega
  case s2x => exact szx
  rintro vqx wqx oqx bqx gqx
  clear gqx Opx Bpx Mx szx
  have VQ := hide (Bs.of_owns oqx).1
  replace LL : Hid (Later w wqx) := LL.out.trans bqx
  replace CA := hide (CA.out.later bqx)
  replace SA := hide (SA.out.later bqx)
  clear oqx bqx
  go_wp2_with fail
  refine (parse_c _ VQ.out).mono ?_
  rintro e w4 ⟨rfl, hl⟩
  rw [F3.out]
  replace LL := hide (LL.out.trans hl)
  replace CA := hide (CA.out.later hl)
  replace SA := hide (SA.out.later hl)
  clear hl VQ
  simp only
  go_wp2_with (refine wpList_newCS rfl rfl rfl rfl rfl rfl 9 10 rfl rfl (by simp) (by simp) (by decide) (.tmp 44) (.tmp 45) (by simp) (by simp) (by simp) (by simp) rfl rfl rfl rfl C (0, 0, 0) rfl rfl ?_)
  intro gB hB' wB hB1 hB2 hl hg
  replace LL := hide (LL.out.trans hl)
  replace CA := hide (CA.out.later hl)
  replace SA := hide (SA.out.later hl)
  have CB := hide hB1
  have SB := hide hB2
  clear hl hg hB1 hB2
  have a0 := CA.out.cell 0
  have a1 := CA.out.cell 1
  have a2 := CA.out.cell 2
  have a3 := CA.out.cell 3
  have a4 := CA.out.cell 4
  have b0 := CB.out.cell 0
  have b1 := CB.out.cell 1
  have b2 := CB.out.cell 2
  have b3 := CB.out.cell 3
  have b4 := CB.out.cell 4
  have c0 := SA.out.cell 0
  have c1 := SA.out.cell 1
  have c2 := SA.out.cell 2
  have d0 := SB.out.cell 0
  have d1 := SB.out.cell 1
  have d2 := SB.out.cell 2
  go_wp2_with (first | (refine wpList_eqS' (by kernel_rfl) (.tmp 48) (.tmp 49) rfl (0, 0, 0) (0, 0, 0) rfl rfl true (by rfl) ?_) | (refine wpList_eqC (by kernel_rfl) (.tmp 53) (.tmp 54) rfl C C rfl rfl true (by simp) ?_))
  refine (size_c C.1 _).mono ?_
  rintro e w5 ⟨rfl, hl⟩
  rw [← HD.out]
  replace LL := hide (LL.out.trans hl)
  clear hl a0 a1 a2 a3 a4 b0 b1 b2 b3 b4 c0 c1 c2 d0 d1 d2
  have hle : Hid (nd ≤ n) := by have := F4.out; have := HN.out; rw [Hid]; omega
  go_wp2
  go_ret
  refine ⟨?_, LL.out⟩
  simp
  exact hle.out
end Go.Proofs.Ytccdgpadjfjoeaa
