import Derived.Test.YtccdgpadjfjoeaaWR6f
import Derived.Test.YtccdgpadjfjoeaaWR6c
import Derived.Test.YtccdgpadjfjoeaaMAO
import Derived.Test.YtccdgpadjfjoeaaMAN
namespace Go.Proofs.Ytccdgpadjfjoeaa
open Go.ChangeShapes Go.WideShapes Go.ChangeAt Go.RowKit
set_option linter.unusedVariables false
set_option linter.unusedSimpArgs false

/-! Parse of the document. -/
theorem rrest_c (op : Int) (hk : knownB op = true) {v : Value} {l : List UInt8} (w : World) (h : Bs w v l) (hl : l.length = sizeN op) : Calls Try.prog 24 #[.int .i64 op, v] w fun e w' => e = .returned (.tuple #[cval (restS op l).1, .bool (restS op l).2]) ∧ Later w w' := by
  by_cases ho : op ≠ 3 ∧ op ≠ 18 ∧ op ≠ 21 ∧ op ≠ 85 ∧ op ≠ 26 ∧ op ≠ 90 ∧ op ≠ 27 ∧ op ≠ 30 ∧ op ≠ 37 ∧ op ≠ 158 ∧ op ≠ 160
  · exact rrest_other op w l ho
  · have h1 : op = 3 ∨ op = 18 ∨ op = 21 ∨ op = 85 ∨ op = 26 ∨ op = 90 ∨ op = 27 ∨ op = 30 ∨ op = 37 ∨ op = 158 ∨ op = 160 := by omega
    rcases h1 with rfl | rfl | rfl | rfl | rfl | rfl | rfl | rfl | rfl | rfl | rfl
    · exact rrest_3 w h hl
    · exact rrest_18 w h hl
    · exact rrest_21 w h hl
    · exact rrest_85 w h hl
    · exact rrest_26 w h hl
    · exact rrest_90 w h hl
    · exact rrest_27 w h hl
    · exact rrest_30 w h hl
    · exact rrest_37 w h hl
    · exact rrest_158 w h hl
    · exact rrest_160 w h hl
theorem rblocks_c (op : Int) (hk : 0 < classI op) {v : Value} {l : List UInt8} (w : World) (h : Bs w v l) (hl : l.length = sizeN op) : Calls Try.prog 25 #[.int .i64 op, v] w fun e w' => e = .returned (.tuple #[cval (blocksS op l).1, .bool (blocksS op l).2]) ∧ Later w w' := by
  rcases class_cases op with h1 | h1
  · rcases h1 with rfl | rfl | rfl | rfl | rfl | rfl | rfl | rfl | rfl | rfl | rfl | rfl | rfl
    · exact rblocks_6 8 v l w h hl
    · exact rblocks_10_1 40 rfl v l w h hl
    · exact rblocks_12_1 168 rfl v l w h hl
    · exact rblocks_16_1 136 rfl v l w h hl
    · exact rblocks_6 10 v l w h hl
    · exact rblocks_10_2 42 rfl v l w h hl
    · exact rblocks_12_2 170 rfl v l w h hl
    · exact rblocks_16_2 138 rfl v l w h hl
    · exact rblocks_10_3 47 rfl v l w h hl
    · exact rblocks_12_3 175 rfl v l w h hl
    · exact rblocks_16_3 143 rfl v l w h hl
    · exact rblocks_10_4 53 rfl v l w h hl
    · exact rblocks_16_4 145 rfl v l w h hl
  · rw [class_other h1] at hk; omega
theorem Bs.cut6 {w : World} {b off n cap : Nat} {l : List UInt8} (h : Bs w (.slice (some ⟨b, off, none⟩) n cap) l) (k : Nat) (hk : k ≤ n) : Bs w (.slice (some ⟨b, off, none⟩) k cap) (l.take k) := by
  obtain ⟨h1, ad, cap', e, h2, h3⟩ := h
  simp at e
  obtain ⟨rfl, rfl, rfl⟩ := e
  have hl : (l.take k).length = k := by simp; omega
  refine ⟨by rw [hl]; omega, some ⟨b, off, none⟩, cap, by rw [hl], by rw [hl]; omega, ?_⟩
  rcases h3 with h3 | ⟨b', off', e, h3⟩
  · exact .inl (by rw [h3]; simp)
  · simp at e
    obtain ⟨rfl, rfl⟩ := e
    refine .inr ⟨b, off, rfl, fun j hj => ?_⟩
    rw [hl] at hj
    rw [h3 j (by omega), List.getElem_take]
def readS (op : Int) (l : List UInt8) : Cmd × Bool := if 0 < classI op then blocksS op l else restS op l
def parseRo (op : Int) (l : List UInt8) : Cmd × Sns :=
  if knownB op = false then (czero, (5, 32, 0))
  else if l.length < sizeN op ∨ Bn l (sizeN op - 1) ≠ 0 then (czero, (5, 36, 0))
  else if (readS op (l.take (sizeN op))).2 = false then (czero, (5, 36, 0))
  else ((readS op (l.take (sizeN op))).1, (0, 0, 0))
def parseR (l : List UInt8) : Cmd × Sns := if l.length = 0 then (czero, (5, 32, 0)) else parseRo (Bn l 0 : Nat) l
set_option maxHeartbeats 4000000 in
theorem rparse6_c {v : Value} {l : List UInt8} (w : World) (h : Bs w v l) : Calls Try.prog 9 #[v] w fun e w' => e = .returned (.tuple #[cval (parseR l).1, sval (parseR l).2]) ∧ Later w w' := by
  have HB := hide h
  have hlm := h.1
  unfold maxLen at hlm
  obtain ⟨_, ad, cap, rfl, hcap, hd⟩ := h
  clear hd
  have BC := hide ((Box.new w 26 #[.int .i64 0, .int .u64 0, .int .i64 0, .int .i64 0, .int .i64 0]).alloc (.cells #[.int .i64 0, .int .i64 0, .int .i64 0] 28))
  have BS : Hid (Box ((w.alloc (.cells #[.int .i64 0, .int .u64 0, .int .i64 0, .int .i64 0, .int .i64 0] 26)).alloc (.cells #[.int .i64 0, .int .i64 0, .int .i64 0] 28)) (w.heap.size + 1) 28 (sc (0, 0, 0))) := Box.new' _ _ _ _ rfl _ (by simp)
  have LL := hide (((Later.refl w).alloc (.cells #[.int .i64 0, .int .u64 0, .int .i64 0, .int .i64 0, .int .i64 0] 26)).alloc (.cells #[.int .i64 0, .int .i64 0, .int .i64 0] 28))
  by_cases h0 : l.length = 0
  · have HP : Hid (parseR l = (czero, (5, 32, 0))) := by simp [Hid, parseR, h0]
    rw [h0] at HB hlm hcap ⊢
    go_enter Try.func9, Try.ntmps9
    go_wp2_with fail
    generalize ((w.alloc (.cells #[.int .i64 0, .int .u64 0, .int .i64 0, .int .i64 0, .int .i64 0] 26)).alloc (.cells #[.int .i64 0, .int .i64 0, .int .i64 0] 28)) = w1 at *
    refine (rof_c 5 32 0 _).mono ?_
    rintro e wu ⟨rfl, hl⟩
    replace BC := hide (BC.out.later hl)
    replace BS := hide (BS.out.later hl)
    replace LL := hide (LL.out.trans hl)
    clear hl
    go_wp2_with (refine wpList_storeU rfl 26 (.tmp 2) (.tmp 19) rfl w.heap.size 0 rfl (cc czero) rfl Try.info_cmd (cc_one _) _ _ BC.out (by simp) ?_)
    intro wA hA
    have BA : Hid (Box wA w.heap.size 26 (cc czero)) := by rw [hA.out]; exact BC.out.all _ rfl
    have SA : Hid (Box wA (w.heap.size + 1) 28 (sc (0, 0, 0))) := by rw [hA.out]; exact BS.out.apart _ (by omega) _ _
    have LA : Hid (Later w wA) := by rw [hA.out]; exact LL.out.setCells (Nat.le_refl _) _ _
    clear hA
    go_wp2_with (refine wpList_storeU rfl 28 (.tmp 3) (.tmp 20) rfl (w.heap.size + 1) 0 rfl (sc (5, 32, 0)) rfl Try.info_sense (sc_one _) _ _ SA.out (by simp) ?_)
    intro wB hB
    have BB : Hid (Box wB w.heap.size 26 (cc czero)) := by rw [hB.out]; exact BA.out.apart _ (by omega) _ _
    have SB : Hid (Box wB (w.heap.size + 1) 28 (sc (5, 32, 0))) := by rw [hB.out]; exact SA.out.all _ rfl
    have LB : Hid (Later w wB) := by rw [hB.out]; exact LA.out.setCells (Nat.le_succ _) _ _
    clear hB
    go_wp2
    refine bodyPost_ret (results_cc6 rfl _ _ _ w.heap.size 0 (w.heap.size + 1) 0 rfl rfl _ _ (load_cmd (c := czero) BB.out rfl) (load_sns (s := (5, 32, 0)) SB.out)) rfl ⟨by rw [HP.out], LB.out⟩
  obtain ⟨b, off, cap', e, hc⟩ := HB.out.cells6 rfl (by omega)
  simp at e
  obtain ⟨rfl, rfl⟩ := e
  have HC := hide hc
  have c0 := hc 0 (by omega) _ LL.out
  rw [Nat.add_zero] at c0
  have HP0 : Hid (parseR l = parseRo (Bn l 0 : Nat) l) := by rw [Hid, parseR, if_neg h0]
  have hx0 := Bn_lt l 0
  generalize Bn l 0 = x at *
  obtain ⟨op, hop⟩ : ∃ op : Int, (x : Int) = op := ⟨_, rfl⟩
  have hw0 : IntKind.i64.wrap (x : Int) = op := by rw [IntKind.wrap_i64, ← hop]; omega
  rw [hop] at HP0
  clear hop hx0 hc
  have hl0 : ((l.length : Int) == 0) = false := by rw [beq_eq_false_iff_ne]; omega
  obtain ⟨n, hn⟩ : ∃ n, n = l.length := ⟨_, rfl⟩
  rw [← hn] at HB hlm h0 hl0 HC hcap ⊢
  have HN := hide hn
  clear hn
  go_enter Try.func9, Try.ntmps9
  go_wp2_with fail
  generalize ((w.alloc (.cells #[.int .i64 0, .int .u64 0, .int .i64 0, .int .i64 0, .int .i64 0] 26)).alloc (.cells #[.int .i64 0, .int .i64 0, .int .i64 0] 28)) = w1 at *
  refine (rknown_c op _).mono ?_
  rintro e w2 ⟨rfl, hl⟩
  have c1 := hl.cellOf c0
  clear c0
  replace BC := hide (BC.out.later hl)
  replace BS := hide (BS.out.later hl)
  replace LL := hide (LL.out.trans hl)
  clear hl
  cases hk : knownB op with
  | false =>
    have HP : Hid (parseR l = (czero, (5, 32, 0))) := by rw [Hid, HP0.out, parseRo, if_pos hk]
    go_wp2_with fail
    refine (rof_c 5 32 0 _).mono ?_
    rintro e wu ⟨rfl, hl⟩
    replace BC := hide (BC.out.later hl)
    replace BS := hide (BS.out.later hl)
    replace LL := hide (LL.out.trans hl)
    clear hl
    go_wp2_with (refine wpList_storeU rfl 26 (.tmp 2) (.tmp 19) rfl w.heap.size 0 rfl (cc czero) rfl Try.info_cmd (cc_one _) _ _ BC.out (by simp) ?_)
    intro wA hA
    have BA : Hid (Box wA w.heap.size 26 (cc czero)) := by rw [hA.out]; exact BC.out.all _ rfl
    have SA : Hid (Box wA (w.heap.size + 1) 28 (sc (0, 0, 0))) := by rw [hA.out]; exact BS.out.apart _ (by omega) _ _
    have LA : Hid (Later w wA) := by rw [hA.out]; exact LL.out.setCells (Nat.le_refl _) _ _
    clear hA
    go_wp2_with (refine wpList_storeU rfl 28 (.tmp 3) (.tmp 20) rfl (w.heap.size + 1) 0 rfl (sc (5, 32, 0)) rfl Try.info_sense (sc_one _) _ _ SA.out (by simp) ?_)
    intro wB hB
    have BB : Hid (Box wB w.heap.size 26 (cc czero)) := by rw [hB.out]; exact BA.out.apart _ (by omega) _ _
    have SB : Hid (Box wB (w.heap.size + 1) 28 (sc (5, 32, 0))) := by rw [hB.out]; exact SA.out.all _ rfl
    have LB : Hid (Later w wB) := by rw [hB.out]; exact LA.out.setCells (Nat.le_succ _) _ _
    clear hB
    go_wp2
    refine bodyPost_ret (results_cc6 rfl _ _ _ w.heap.size 0 (w.heap.size + 1) 0 rfl rfl _ _ (load_cmd (c := czero) BB.out rfl) (load_sns (s := (5, 32, 0)) SB.out)) rfl ⟨by rw [HP.out], LB.out⟩
  | true =>
  obtain ⟨m, hm, hm15⟩ := size_pos hk
  have HM := hide hm
  have HK := hide hk
  clear hm hk
  go_wp2_with fail
  clear c1 hw0
  refine (rsize_c op _).mono ?_
  rintro e w4 ⟨rfl, hl⟩
  rw [HM.out]
  replace BC := hide (BC.out.later hl)
  replace BS := hide (BS.out.later hl)
  replace LL := hide (LL.out.trans hl)
  clear hl
  by_cases hA : n < m + 1
  · have hAb : decide ((n : Int) < (m : Int) + 1) = true := by simp; omega
    have HP : Hid (parseR l = (czero, (5, 36, 0))) := by
      rw [Hid, HP0.out, parseRo, if_neg (by rw [HK.out]; simp), if_pos (.inl (by rw [HM.out, ← HN.out]; exact hA))]
    go_wp2_with fail
    refine (rof_c 5 36 0 _).mono ?_
    rintro e wu ⟨rfl, hl⟩
    replace BC := hide (BC.out.later hl)
    replace BS := hide (BS.out.later hl)
    replace LL := hide (LL.out.trans hl)
    clear hl
    go_wp2_with (refine wpList_storeU rfl 26 (.tmp 2) (.tmp 39) rfl w.heap.size 0 rfl (cc czero) rfl Try.info_cmd (cc_one _) _ _ BC.out (by simp) ?_)
    intro wA hA
    have BA : Hid (Box wA w.heap.size 26 (cc czero)) := by rw [hA.out]; exact BC.out.all _ rfl
    have SA : Hid (Box wA (w.heap.size + 1) 28 (sc (0, 0, 0))) := by rw [hA.out]; exact BS.out.apart _ (by omega) _ _
    have LA : Hid (Later w wA) := by rw [hA.out]; exact LL.out.setCells (Nat.le_refl _) _ _
    clear hA
    go_wp2_with (refine wpList_storeU rfl 28 (.tmp 3) (.tmp 40) rfl (w.heap.size + 1) 0 rfl (sc (5, 36, 0)) rfl Try.info_sense (sc_one _) _ _ SA.out (by simp) ?_)
    intro wB hB
    have BB : Hid (Box wB w.heap.size 26 (cc czero)) := by rw [hB.out]; exact BA.out.apart _ (by omega) _ _
    have SB : Hid (Box wB (w.heap.size + 1) 28 (sc (5, 36, 0))) := by rw [hB.out]; exact SA.out.all _ rfl
    have LB : Hid (Later w wB) := by rw [hB.out]; exact LA.out.setCells (Nat.le_succ _) _ _
    clear hB
    go_wp2
    refine bodyPost_ret (results_cc6 rfl _ _ _ w.heap.size 0 (w.heap.size + 1) 0 rfl rfl _ _ (load_cmd (c := czero) BB.out rfl) (load_sns (s := (5, 36, 0)) SB.out)) rfl ⟨by rw [HP.out], LB.out⟩
  have hAb : decide ((n : Int) < (m : Int) + 1) = false := by simp; omega
  have hmn : m < n := by omega
  have cm := HC.out m hmn _ LL.out
  by_cases hz : Bn l m = 0
  case neg =>
    have hzb : ((Bn l m : Int) != 0) = true := by rw [bne_iff_ne]; omega
    have HP : Hid (parseR l = (czero, (5, 36, 0))) := by
      rw [Hid, HP0.out, parseRo, if_neg (by rw [HK.out]; simp), if_pos (.inr (by rw [HM.out]; simp only [Nat.add_sub_cancel]; exact hz))]
    clear hz
    go_wp2_with fail
    refine (rof_c 5 36 0 _).mono ?_
    rintro e wu ⟨rfl, hl⟩
    replace BC := hide (BC.out.later hl)
    replace BS := hide (BS.out.later hl)
    replace LL := hide (LL.out.trans hl)
    clear hl
    go_wp2_with (refine wpList_storeU rfl 26 (.tmp 2) (.tmp 39) rfl w.heap.size 0 rfl (cc czero) rfl Try.info_cmd (cc_one _) _ _ BC.out (by simp) ?_)
    intro wA hA
    have BA : Hid (Box wA w.heap.size 26 (cc czero)) := by rw [hA.out]; exact BC.out.all _ rfl
    have SA : Hid (Box wA (w.heap.size + 1) 28 (sc (0, 0, 0))) := by rw [hA.out]; exact BS.out.apart _ (by omega) _ _
    have LA : Hid (Later w wA) := by rw [hA.out]; exact LL.out.setCells (Nat.le_refl _) _ _
    clear hA
    go_wp2_with (refine wpList_storeU rfl 28 (.tmp 3) (.tmp 40) rfl (w.heap.size + 1) 0 rfl (sc (5, 36, 0)) rfl Try.info_sense (sc_one _) _ _ SA.out (by simp) ?_)
    intro wB hB
    have BB : Hid (Box wB w.heap.size 26 (cc czero)) := by rw [hB.out]; exact BA.out.apart _ (by omega) _ _
    have SB : Hid (Box wB (w.heap.size + 1) 28 (sc (5, 36, 0))) := by rw [hB.out]; exact SA.out.all _ rfl
    have LB : Hid (Later w wB) := by rw [hB.out]; exact LA.out.setCells (Nat.le_succ _) _ _
    clear hB
    go_wp2
    refine bodyPost_ret (results_cc6 rfl _ _ _ w.heap.size 0 (w.heap.size + 1) 0 rfl rfl _ _ (load_cmd (c := czero) BB.out rfl) (load_sns (s := (5, 36, 0)) SB.out)) rfl ⟨by rw [HP.out], LB.out⟩
  have hzb : ((Bn l m : Int) != 0) = false := by simp [hz]
  have HQ : Hid (parseR l = if (readS op (l.take (m + 1))).2 = false then (czero, (5, 36, 0)) else ((readS op (l.take (m + 1))).1, (0, 0, 0))) := by
    have h1 : ¬ (l.length < sizeN op ∨ Bn l (sizeN op - 1) ≠ 0) := by
      rw [HM.out]
      simp only [Nat.add_sub_cancel]
      rw [hz]
      have := HN.out
      simp
      omega
    rw [Hid, HP0.out, parseRo, if_neg (by rw [HK.out]; simp), if_neg h1, HM.out]
  clear hz
  have HS : Hid (Bs w (.slice (some ⟨b, off, none⟩) (m + 1) cap) (l.take (m + 1))) := HB.out.cut6 (m + 1) (by omega)
  have hTl : Hid ((l.take (m + 1)).length = sizeN op) := by rw [Hid, HM.out, List.length_take]; have := HN.out; omega
  generalize l.take (m + 1) = t at *
  have s1 : ((m : Int) + 1 ≤ (cap : Int)) := by omega
  go_wp2_with fail
  refine (rrest_c op HK.out _ (HS.out.later LL.out) hTl.out).mono ?_
  rintro e w5 ⟨rfl, hl⟩
  replace BC := hide (BC.out.later hl)
  replace BS := hide (BS.out.later hl)
  replace LL := hide (LL.out.trans hl)
  clear hl cm hzb
  have HS1 : Hid (0 < classI op → readS op t = blocksS op t) := fun h => if_pos h
  have HS2 : Hid (¬ 0 < classI op → readS op t = restS op t) := fun h => if_neg h
  generalize restS op t = r at *
  obtain ⟨r1, r2⟩ := r
  simp only at HS2 ⊢
  go_wp2_with (refine wpList_newC rfl rfl rfl 6 rfl (by simp) (.tmp 47) (by simp) rfl r1 rfl ?_)
  intro g6 w6 hB hl hg
  have hg6 : Hid (w.heap.size + 1 < g6) := by rw [Hid, hg.out.1]; exact BS.out.lt
  replace BC := hide (BC.out.later hl)
  replace BS := hide (BS.out.later hl)
  replace LL := hide (LL.out.trans hl)
  have B6 := hide hB
  clear hl hB hg
  go_wp2_with fail
  refine (rclass_c op _).mono ?_
  rintro e w7 ⟨rfl, hw⟩
  have hw2 := hw.symm
  subst hw2
  clear hw
  by_cases hcl : 0 < classI op
  case neg =>
    have hclb : decide (0 < classI op) = false := by simp; omega
    have hQ2 : Hid (readS op t = (r1, r2)) := HS2.out (by omega)
    rw [hQ2.out] at HQ
    clear HS1 HS2 hcl hQ2
    simp only at HQ
    cases r2 with
    | false =>
      have HP : Hid (parseR l = (czero, (5, 36, 0))) := by rw [Hid, HQ.out]; rfl
      go_wp2_with fail
      refine (rof_c 5 36 0 _).mono ?_
      rintro e wu ⟨rfl, hl⟩
      replace BC := hide (BC.out.later hl)
      replace BS := hide (BS.out.later hl)
      replace LL := hide (LL.out.trans hl)
      clear hl
      go_wp2_with (refine wpList_storeU rfl 26 (.tmp 2) (.tmp 62) rfl w.heap.size 0 rfl (cc czero) rfl Try.info_cmd (cc_one _) _ _ BC.out (by simp) ?_)
      intro wA hA
      have BA : Hid (Box wA w.heap.size 26 (cc czero)) := by rw [hA.out]; exact BC.out.all _ rfl
      have SA : Hid (Box wA (w.heap.size + 1) 28 (sc (0, 0, 0))) := by rw [hA.out]; exact BS.out.apart _ (by omega) _ _
      have LA : Hid (Later w wA) := by rw [hA.out]; exact LL.out.setCells (Nat.le_refl _) _ _
      clear hA
      go_wp2_with (refine wpList_storeU rfl 28 (.tmp 3) (.tmp 63) rfl (w.heap.size + 1) 0 rfl (sc (5, 36, 0)) rfl Try.info_sense (sc_one _) _ _ SA.out (by simp) ?_)
      intro wB hB
      have BB : Hid (Box wB w.heap.size 26 (cc czero)) := by rw [hB.out]; exact BA.out.apart _ (by omega) _ _
      have SB : Hid (Box wB (w.heap.size + 1) 28 (sc (5, 36, 0))) := by rw [hB.out]; exact SA.out.all _ rfl
      have LB : Hid (Later w wB) := by rw [hB.out]; exact LA.out.setCells (Nat.le_succ _) _ _
      clear hB
      go_wp2
      refine bodyPost_ret (results_cc6 rfl _ _ _ w.heap.size 0 (w.heap.size + 1) 0 rfl rfl _ _ (load_cmd (c := czero) BB.out rfl) (load_sns (s := (5, 36, 0)) SB.out)) rfl ⟨by rw [HP.out], LB.out⟩
    | true =>
      have HP : Hid (parseR l = (r1, (0, 0, 0))) := by rw [Hid, HQ.out]; rfl
      have e0 := B6.out.cell 0
      have e1 := B6.out.cell 1
      have e2 := B6.out.cell 2
      have e3 := B6.out.cell 3
      have e4 := B6.out.cell 4
      go_wp2_with (refine wpList_storeU rfl 26 (.tmp 2) (.tmp 64) rfl w.heap.size 0 rfl (cc r1) rfl Try.info_cmd (cc_one _) _ _ BC.out (by simp) ?_)
      intro wA hA
      have BA : Hid (Box wA w.heap.size 26 (cc r1)) := by rw [hA.out]; exact BC.out.all _ rfl
      have SA : Hid (Box wA (w.heap.size + 1) 28 (sc (0, 0, 0))) := by rw [hA.out]; exact BS.out.apart _ (by omega) _ _
      have LA : Hid (Later w wA) := by rw [hA.out]; exact LL.out.setCells (Nat.le_refl _) _ _
      clear hA
      go_wp2_with (refine wpList_storeU rfl 28 (.tmp 3) (.tmp 65) rfl (w.heap.size + 1) 0 rfl (sc (0, 0, 0)) rfl Try.info_sense (sc_one _) _ _ SA.out (by simp) ?_)
      intro wB hB
      have BB : Hid (Box wB w.heap.size 26 (cc r1)) := by rw [hB.out]; exact BA.out.apart _ (by omega) _ _
      have SB : Hid (Box wB (w.heap.size + 1) 28 (sc (0, 0, 0))) := by rw [hB.out]; exact SA.out.all _ rfl
      have LB : Hid (Later w wB) := by rw [hB.out]; exact LA.out.setCells (Nat.le_succ _) _ _
      clear hB
      go_wp2
      refine bodyPost_ret (results_cc6 rfl _ _ _ w.heap.size 0 (w.heap.size + 1) 0 rfl rfl _ _ (load_cmd (c := r1) BB.out rfl) (load_sns (s := (0, 0, 0)) SB.out)) rfl ⟨by rw [HP.out], LB.out⟩
  have hclb : decide (0 < classI op) = true := by simp; omega
  have HCL := hide hcl
  have hQ2 := HS1.out hcl
  rw [hQ2] at HQ
  clear HS1 HS2 hcl hQ2
  go_wp2_with fail
  refine (rblocks_c op HCL.out _ (HS.out.later LL.out) hTl.out).mono ?_
  rintro e w8 ⟨rfl, hl⟩
  replace BC := hide (BC.out.later hl)
  replace BS := hide (BS.out.later hl)
  replace LL := hide (LL.out.trans hl)
  replace B6 := hide (B6.out.later hl)
  clear hl
  generalize blocksS op t = q at *
  obtain ⟨q1, q2⟩ := q
  simp only at HQ ⊢
  go_wp2_with (refine wpList_storeU rfl 26 (.tmp 6) (.tmp 58) rfl g6 0 rfl (cc q1) rfl Try.info_cmd (cc_one _) _ _ B6.out (by simp) ?_)
  intro w9 hw9
  replace BC := hide (BC.out.apart g6 (by have := hg6.out; omega) (cc q1) 0)
  replace BS := hide (BS.out.apart g6 (by have := hg6.out; omega) (cc q1) 0)
  replace LL := hide (LL.out.setCells (g := g6) (by have := hg6.out; omega) (cc q1) 0)
  replace B6 := hide (B6.out.all (cc q1) rfl)
  rw [← hw9.out] at BC BS LL B6
  clear hw9
  cases q2 with
  | false =>
    have HP : Hid (parseR l = (czero, (5, 36, 0))) := by rw [Hid, HQ.out]; rfl
    go_wp2_with fail
    refine (rof_c 5 36 0 _).mono ?_
    rintro e wu ⟨rfl, hl⟩
    replace BC := hide (BC.out.later hl)
    replace BS := hide (BS.out.later hl)
    replace LL := hide (LL.out.trans hl)
    clear hl
    go_wp2_with (refine wpList_storeU rfl 26 (.tmp 2) (.tmp 62) rfl w.heap.size 0 rfl (cc czero) rfl Try.info_cmd (cc_one _) _ _ BC.out (by simp) ?_)
    intro wA hA
    have BA : Hid (Box wA w.heap.size 26 (cc czero)) := by rw [hA.out]; exact BC.out.all _ rfl
    have SA : Hid (Box wA (w.heap.size + 1) 28 (sc (0, 0, 0))) := by rw [hA.out]; exact BS.out.apart _ (by omega) _ _
    have LA : Hid (Later w wA) := by rw [hA.out]; exact LL.out.setCells (Nat.le_refl _) _ _
    clear hA
    go_wp2_with (refine wpList_storeU rfl 28 (.tmp 3) (.tmp 63) rfl (w.heap.size + 1) 0 rfl (sc (5, 36, 0)) rfl Try.info_sense (sc_one _) _ _ SA.out (by simp) ?_)
    intro wB hB
    have BB : Hid (Box wB w.heap.size 26 (cc czero)) := by rw [hB.out]; exact BA.out.apart _ (by omega) _ _
    have SB : Hid (Box wB (w.heap.size + 1) 28 (sc (5, 36, 0))) := by rw [hB.out]; exact SA.out.all _ rfl
    have LB : Hid (Later w wB) := by rw [hB.out]; exact LA.out.setCells (Nat.le_succ _) _ _
    clear hB
    go_wp2
    refine bodyPost_ret (results_cc6 rfl _ _ _ w.heap.size 0 (w.heap.size + 1) 0 rfl rfl _ _ (load_cmd (c := czero) BB.out rfl) (load_sns (s := (5, 36, 0)) SB.out)) rfl ⟨by rw [HP.out], LB.out⟩
  | true =>
    have HP : Hid (parseR l = (q1, (0, 0, 0))) := by rw [Hid, HQ.out]; rfl
    have e0 := B6.out.cell 0
    have e1 := B6.out.cell 1
    have e2 := B6.out.cell 2
    have e3 := B6.out.cell 3
    have e4 := B6.out.cell 4
    go_wp2_with (refine wpList_storeU rfl 26 (.tmp 2) (.tmp 64) rfl w.heap.size 0 rfl (cc q1) rfl Try.info_cmd (cc_one _) _ _ BC.out (by simp) ?_)
    intro wA hA
    have BA : Hid (Box wA w.heap.size 26 (cc q1)) := by rw [hA.out]; exact BC.out.all _ rfl
    have SA : Hid (Box wA (w.heap.size + 1) 28 (sc (0, 0, 0))) := by rw [hA.out]; exact BS.out.apart _ (by omega) _ _
    have LA : Hid (Later w wA) := by rw [hA.out]; exact LL.out.setCells (Nat.le_refl _) _ _
    clear hA
    go_wp2_with (refine wpList_storeU rfl 28 (.tmp 3) (.tmp 65) rfl (w.heap.size + 1) 0 rfl (sc (0, 0, 0)) rfl Try.info_sense (sc_one _) _ _ SA.out (by simp) ?_)
    intro wB hB
    have BB : Hid (Box wB w.heap.size 26 (cc q1)) := by rw [hB.out]; exact BA.out.apart _ (by omega) _ _
    have SB : Hid (Box wB (w.heap.size + 1) 28 (sc (0, 0, 0))) := by rw [hB.out]; exact SA.out.all _ rfl
    have LB : Hid (Later w wB) := by rw [hB.out]; exact LA.out.setCells (Nat.le_succ _) _ _
    clear hB
    go_wp2
    refine bodyPost_ret (results_cc6 rfl _ _ _ w.heap.size 0 (w.heap.size + 1) 0 rfl rfl _ _ (load_cmd (c := q1) BB.out rfl) (load_sns (s := (0, 0, 0)) SB.out)) rfl ⟨by rw [HP.out], LB.out⟩
end Go.Proofs.Ytccdgpadjfjoeaa

namespace Go.Proofs.Ytccdgpadjfjoeaa
open Go.ChangeShapes Go.WideShapes Go.ChangeAt Go.RowKit
set_option linter.unusedVariables false
set_option linter.unusedSimpArgs false

/-! lay of the document: a number into bytes, from a place on. -/
theorem putBe_succ (x k : Nat) : putBe x (k + 1) = UInt8.ofNat (x / 256 ^ k) :: putBe x k := by
  unfold putBe putLe
  rw [List.range_succ]
  simp
theorem over_step1 (l : List UInt8) (p x k : Nat) (h : p + 1 + k ≤ l.length) : (over l (p + 1) (putBe x k)).set p (UInt8.ofNat (x / 256 ^ k)) = over l p (putBe x (k + 1)) := by
  have hk : (putBe x k).length = k := putBe_length x k
  have h1 : (over l (p + 1) (putBe x k)).length = l.length := over_length _ _ _ (by rw [hk]; omega)
  have h2 : (over l p (putBe x (k + 1))).length = l.length := over_length _ _ _ (by rw [putBe_length]; omega)
  refine List.ext_getElem? fun j => ?_
  rw [List.getElem?_set, over_get _ _ _ (by rw [hk]; omega), over_get _ _ _ (by rw [putBe_length]; omega), h1, hk, putBe_length, putBe_succ]
  by_cases hj : p = j
  · subst hj
    rw [if_pos rfl, if_pos (by omega), if_pos (by omega)]
    simp
  · rw [if_neg hj]
    by_cases hj2 : p + 1 ≤ j ∧ j < p + 1 + k
    · rw [if_pos hj2, if_pos (by omega)]
      rw [show j - p = (j - (p + 1)) + 1 from by omega, List.getElem?_cons_succ]
    · rw [if_neg hj2, if_neg (by omega)]
set_option maxHeartbeats 1000000 in
theorem rlay_c (g n a wd x : Nat) (l : List UInt8) (w : World) (hB : Box w g 5 (bv l)) (hn : l.length = n) (hn1 : n ≤ 100) (h2 : a + wd ≤ n) (hx : x ≤ 18446744073709551615) :
    Calls Try.prog 29 #[.slice (some ⟨g, 0, none⟩) n n, .int .i64 (a : Int), .int .i64 (wd : Int), .int .u64 (x : Int)] w fun e w' => e = .returned (.tuple #[]) ∧ Below g w w' ∧ Box w' g 5 (bv (over l a (putBe x wd))) := by
  have HB := hide hB
  have HN := hide hn
  clear hB hn
  go_enter Try.func29, Try.ntmps29
  go_wp2_with fail
  go_loopw [8, 3] (fun i y wr => ∃ (k z : Nat), k ≤ wd ∧ i = .int .i64 ((wd : Int) - 1 - (k : Int)) ∧ y = .int .u64 (z : Int) ∧ z ≤ 18446744073709551615 ∧ Hid (z = x / 256 ^ k) ∧ Hid (Below g w wr ∧ Box wr g 5 (bv (over l (a + wd - k) (putBe x k))))) (fun i _ _ => (intOf i + 1).toNat)
  case atStart =>
    refine ⟨0, x, Nat.zero_le _, by simp, rfl, hx, by simp [Hid], Below.refl _ _, ?_⟩
    have : over l (a + wd - 0) (putBe x 0) = l := by simp [over, putBe, putLe]
    rw [this]; exact HB.out
  case round =>
    clear HB
    obtain ⟨k, z, hk, rfl, rfl, hz, HZ, hinv⟩ := hrel
    by_cases hlt : k < wd
    · obtain ⟨i, hi⟩ : ∃ i : Nat, (wd : Int) - 1 - (k : Int) = (i : Int) := ⟨wd - 1 - k, by omega⟩
      have hiw : i + 1 + k = wd := by omega
      rw [hi]
      obtain ⟨q1, q2⟩ := hinv.out
      have LL := hide q1
      have BB := hide q2
      clear hinv q1 q2
      have hlen : (over l (a + wd - k) (putBe x k)).length = n := by rw [over_length _ _ _ (by rw [putBe_length]; have := HN.out; omega)]; exact HN.out
      have hz2 : (z : Int).tmod 256 = (z : Int) % 256 := Int.tmod_eq_emod_of_nonneg (by omega)
      have hz3 : (z : Int).tdiv 256 = (z : Int) / 256 := Int.tdiv_eq_ediv_of_nonneg (by omega)
      have hz4 : IntKind.u64.wrap ((z : Int) / 256) = ((z / 256 : Nat) : Int) := by rw [IntKind.wrap_u64]; omega
      have hz5 : IntKind.u8.wrap ((z : Int) % 256) = (z : Int) % 256 := by rw [IntKind.wrap_u8]; omega
      have hai : IntKind.i64.wrap ((a : Int) + (i : Int)) = (a : Int) + (i : Int) := by rw [IntKind.wrap_i64]; omega
      have hb2 : (a : Int) + (i : Int) < (n : Int) := by omega
      go_wp2_with (refine wpList_storeB rfl 5 (.tmp 22) (.tmp 21) rfl g (a + i) rfl _ rfl Try.info1_u8 _ _ BB.out (by rw [hlen]; omega) (UInt8.ofNat z) (by rw [mod_byte]) ?_)
      intro w2 hB hw
      have hinv : Hid (Below g w w2 ∧ Box w2 g 5 (bv (over l (a + wd - (k + 1)) (putBe x (k + 1))))) := by
        refine ⟨by rw [hw.out]; exact below_setCells LL.out (Nat.le_refl _) _ _, ?_⟩
        have e := over_step1 l (a + i) x k (by have := HN.out; omega)
        rw [show a + wd - (k + 1) = a + i from by omega, ← e, show a + i + 1 = a + wd - k from by omega, ← HZ.out]
        exact hB
      have HZ2 : Hid (z / 256 = x / 256 ^ (k + 1)) := by rw [Hid, HZ.out, div_byte]
      have hz6 : z / 256 ≤ 18446744073709551615 := by omega
      clear hB hw LL BB HZ
      generalize z / 256 = y at *
      go_wp2
      exact ⟨⟨k + 1, y, by omega, by congr 1; omega, by simp, hz6, HZ2, hinv⟩, by simp only [intOf]; omega⟩
    · have hkw : k = wd := by omega
      subst hkw
      have hm1 : (k : Int) - 1 - (k : Int) = -1 := by omega
      rw [hm1]
      have hinv2 : Hid (Below g w wr ∧ Box wr g 5 (bv (over l a (putBe x k)))) := by
        rw [show a = a + k - k from by omega]; exact hinv
      clear hinv HZ
      go_wp2
      exact bodyPost_end (results_none rfl _ _ _) rfl ⟨rfl, hinv2.out.1, hinv2.out.2⟩
end Go.Proofs.Ytccdgpadjfjoeaa

namespace Go.Proofs.Ytccdgpadjfjoeaa
open Go.ChangeShapes Go.WideShapes Go.ChangeAt Go.RowKit
set_option linter.unusedVariables false
set_option linter.unusedSimpArgs false

/-! Plain facts: what is read of bytes, and laid into them. -/
theorem bigAt_of {l : List UInt8} {a w : Nat} (h1 : 1 ≤ w) (h8 : w ≤ 8) (h : a + w ≤ l.length) : bigAt l (a : Int) (w : Int) = bigOf (seg l a w) := by
  unfold bigAt
  rw [if_pos (by simp [holdsB]; omega)]
  simp
theorem seg_take {l : List UInt8} {a w n : Nat} (h : a + w ≤ n) : seg (l.take n) a w = seg l a w := by
  unfold seg
  rw [List.drop_take, List.take_take, Nat.min_eq_left (by omega)]
theorem bigAt_take {l : List UInt8} {a : Int} {w n : Nat} (ha : a = (a.toNat : Int)) (h : a.toNat + w ≤ n) (hn : n ≤ l.length) : bigAt (l.take n) a (w : Int) = bigAt l a (w : Int) := by
  unfold bigAt
  have h1 : (l.take n).length = n := by simp; omega
  by_cases hw : 1 ≤ w ∧ w ≤ 8
  · rw [if_pos (by simp [holdsB]; omega), if_pos (by simp [holdsB]; omega)]
    simp only [Int.toNat_natCast]
    rw [seg_take h]
  · rw [if_neg (by simp [holdsB]; omega), if_neg (by simp [holdsB]; omega)]
theorem readP_take {l : List UInt8} {p n : Nat} (h : OkP p n) (hn : n ≤ l.length) : readP p (l.take n) = readP p l := by
  unfold readP
  rw [bigAt_take h.2.1 h.2.2 hn]
theorem Bn_take {l : List UInt8} {i n : Nat} (h : i < n) : Bn (l.take n) i = Bn l i := by
  unfold Bn
  rw [List.getD_eq_getElem?_getD, List.getD_eq_getElem?_getD, List.getElem?_take_of_lt h]
theorem seg_one {l : List UInt8} {i : Nat} (h : i < l.length) : seg l i 1 = [l[i]] := by
  rw [seg_cons l i 0 h, seg_zero]
theorem Bn_get {l : List UInt8} {i : Nat} (h : i < l.length) : Bn l i = l[i].toNat := by
  unfold Bn
  rw [List.getD_eq_getElem?_getD, List.getElem?_eq_getElem h]
  rfl
/-- some bits of a byte -/
theorem readP_one (p i bit count : Nat) (h1 : pfirst p = (i : Int)) (h2 : pwidth p = 1) (h3 : pbit p = bit) (h4 : pcount p = count) (h5 : 1 ≤ count ∧ bit + count ≤ 8) {l : List UInt8} (hl : i < l.length) : readP p l = Bn l i / 2 ^ bit % 2 ^ count := by
  unfold readP
  rw [h1, h2, h3, h4, bigAt_of (by omega) (by omega) (by omega), seg_one hl, bitsI, if_pos (by simp [areB]; omega), Bn_get hl]
  simp [bitsN, bigOf]
/-- whole bytes -/
theorem readP_big (p a w : Nat) (h1 : pfirst p = (a : Int)) (h2 : pwidth p = w) (h3 : pbit p = 0) (h4 : pcount p = 8 * w) (h5 : 1 ≤ w ∧ w ≤ 8) {l : List UInt8} (hl : a + w ≤ l.length) : readP p l = bigAt l a w := by
  unfold readP
  rw [h1, h2, h3, h4, bitsI, if_pos (by simp [areB]; omega)]
  have h := bigOf_lt (seg l a w)
  rw [seg_length l a w hl] at h
  rw [bigAt_of h5.1 h5.2 hl]
  simp only [bitsN, Int.toNat_natCast, Nat.pow_zero, Nat.div_one]
  have e : ((8 * w : Nat) : Int).toNat = 8 * w := by omega
  rw [Nat.mod_eq_of_lt]
  rw [show (256 : Nat) = 2 ^ 8 from rfl, ← Nat.pow_mul] at h
  exact h
theorem readP_zero (l : List UInt8) : readP 0 l = 0 := rfl
theorem bigAt_one {l : List UInt8} {i : Nat} (h : i < l.length) : bigAt l (i : Int) (1 : Nat) = Bn l i := by
  rw [bigAt_of (by omega) (by omega) (by omega), seg_one h, Bn_get h]
  simp [bigOf]
theorem bigAt_three {l : List UInt8} {i : Nat} (h : i + 3 ≤ l.length) : bigAt l (i : Int) (3 : Nat) = Bn l i * 65536 + Bn l (i + 1) * 256 + Bn l (i + 2) := by
  rw [bigAt_of (by omega) (by omega) (by omega), seg_cons l i 2 (by omega), seg_cons l (i + 1) 1 (by omega), seg_cons l (i + 1 + 1) 0 (by omega), seg_zero, Bn_get (by omega), Bn_get (by omega), Bn_get (by omega)]
  simp [bigOf]
  omega
end Go.Proofs.Ytccdgpadjfjoeaa
