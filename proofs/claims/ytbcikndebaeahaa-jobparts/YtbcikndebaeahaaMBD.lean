import Derived.Test.YtbcikndebaeahaaMBB
import Derived.Test.YtbcikndebaeahaaMBC
namespace Go.Proofs.Ytbcikndebaeahaa
open Go.ChangeShapes Go.WideShapes Go.ChangeAt Go.RowKit
set_option linter.unusedVariables false
set_option maxRecDepth 4000
set_option linter.unusedSimpArgs false
/-! The landed job: setModes, finish. -/
theorem selP_three : ∀ (f : Nat) (l : List UInt8) (c : Bool), three8 (selP f l c).2
  | 0, _, _ => .inl rfl
  | f + 1, l, c => by
    rw [selP]
    split
    · exact .inl rfl
    split
    · exact .inr (.inl rfl)
    split
    · exact selP_three f _ _
    split
    · exact selP_three f _ _
    split
    · exact selP_three f _ _
    · exact .inr (.inr rfl)
theorem selR_ok (l : List UInt8) (ten c : Bool) : OkS (selR l ten c).2 := by
  refine three8.ok ?_
  unfold selR
  split
  · exact .inl rfl
  split
  · exact .inr (.inl rfl)
  split
  · exact .inr (.inr rfl)
  split
  · exact .inr (.inl rfl)
  · exact selP_three _ _ _
section
variable {w1 : World} {g : Nat} {ab : Option Addr} {n cb : Nat} {aD : Option Addr} {k cD : Nat} {p r l cc : Bool} {am : Option Addr} {m cm : Nat} {s : Sns} {c : Cmd} {len took : Int} {ar : Option Addr} {kr cr : Nat} {S : Sns} {F : List UInt8} {D : List Drt} {M : List Sns} {R : List UInt8} {W : World}
theorem WkA.bs (h : WkA w1 g ab n cb aD k cD p r l cc am m cm s c len took ar kr cr S F D M R W) (hk : kr = R.length) : Bs W (.slice ar kr cr) R := by
  have h1 := (Bs.of_owns (h.2.2.2.2.1)).1
  exact h1
/-- the cache's switch behind a ModeSelect -/
def smB (R : List UInt8) (ten cc : Bool) : Bool := if (selR R ten cc).2 = (0, 0, 0) then (selR R ten cc).1 else cc
/-- a store into another variable of one's own -/
theorem WkA.other (h : WkA w1 g ab n cb aD k cD p r l cc am m cm s c len took ar kr cr S F D M R W) {g' : Nat} {t : TypeId} {cs : List Value} (hB : Box W g' t cs) (hne : g ≠ g') (hn : NoB cs) (h1 : t ≠ 30 ∨ ∀ b, (Value.slice am m cm).ownBlock = some b → b ≠ g') (h2 : t ≠ 5) (hg : w1.heap.size ≤ g') (vs : List Value) (o : Nat) :
    WkA w1 g ab n cb aD k cD p r l cc am m cm s c len took ar kr cr S F D M R (W.setCells g' o vs) := by
  obtain ⟨q1, q2, q3, q4, q5, q6⟩ := h
  refine ⟨q1.setCells hg _ _, q2.apart _ (fun e => hne e) _ _, q3.setNoB hB hn _ _, ?_, owns_setBox10 q5 hB h2 _ _, q6⟩
  rcases h1 with h1 | h1
  · exact owns_setBox10 q4 hB h1 _ _
  · exact owns_kept q4 fun k hk => heap_setCells_other W g' k (h1 k hk) _ _
/-- the attentions lie in no block that comes -/
theorem WkA.sns (h : WkA w1 g ab n cb aD k cD p r l cc am m cm s c len took ar kr cr S F D M R W) : ∀ b, (Value.slice am m cm).ownBlock = some b → b < W.heap.size := fun b hb => (h.2.2.2.1.lt b hb).2
set_option maxRecDepth 20000 in
set_option maxHeartbeats 4000000 in
theorem setModes_c (hg : w1.heap.size ≤ g) (hW : WkA w1 g ab n cb aD k cD p r l cc am m cm s c len took ar kr cr S F D M R W) (hkr : kr = R.length) (hR : R.length ≤ 100000) :
    Calls Try.prog 51 #[.pointer (some ⟨g, 0, none⟩)] W fun e w' => e = .returned (sval (selR R (c.1 == 85) cc).2) ∧ WkA w1 g ab n cb aD k cD p r l (smB R (c.1 == 85) cc) am m cm s c len took ar kr cr S F D M R w' ∧ ∀ g' t cs, g' ≠ g → Box W g' t cs → Box w' g' t cs := by
  have HG0 := hide hg
  have HKr := hide hkr
  have HRl := hide hR
  have HAb0 := hW.sns
  have hgW : g < W.heap.size := hW.2.1.lt
  have hszW : w1.heap.size ≤ W.heap.size := hW.1.size
  have HW := hide (hW.later ((Later.refl W).alloc (.cells #[.int .i64 0, .int .i64 0, .int .i64 0] 30)))
  have HF : Hid (∀ g' t cs, g' ≠ g → Box W g' t cs → Box (W.alloc (.cells #[.int .i64 0, .int .i64 0, .int .i64 0] 30)) g' t cs) := fun g' t cs _ q2 => q2.alloc _
  have BS : Hid (Box (W.alloc (.cells #[.int .i64 0, .int .i64 0, .int .i64 0] 30)) W.heap.size 30 (sc (0, 0, 0))) := Box.new W 30 #[.int .i64 0, .int .i64 0, .int .i64 0]
  clear hg hW hkr hR
  go_enter Try.func51, Try.ntmps51
  go_wp2_with fail
  generalize W.alloc (.cells #[.int .i64 0, .int .i64 0, .int .i64 0] 30) = w2 at *
  obtain ⟨gs, hgs⟩ : ∃ gs, gs = W.heap.size := ⟨_, rfl⟩
  have HGW : Hid (gs = W.heap.size) := hgs
  rw [← hgs] at BS HAb0 ⊢
  have HAb := hide HAb0
  have HG : Hid (w1.heap.size ≤ g ∧ w1.heap.size ≤ gs ∧ g ≠ gs) := ⟨HG0.out, by omega, by omega⟩
  clear hgs hgW hszW HAb0 HG0
  have hc := fun q => ((Later.refl w2).drew.trans (later_rg w2.drew q))
  have x_17 := fun q => (HW.out.2.1.later (hc q)).cell 17
  have x_10 := fun q => (HW.out.2.1.later (hc q)).cell 10
  have x_5 := fun q => (HW.out.2.1.later (hc q)).cell 5
  refine wp_region_bag [0, 1, 2, 3, 4, 5, 6, 7, 8, 9, 10, 11, 12, 13, 14, 15, 16] [17, 18, 19, 20, 21, 22, 23] [23] (by kernel_rfl) (by kernel_rfl) (by kernel_rfl) (by kernel_rfl) ?_
  iterate 17 (refine wpM_mild rfl (fun K hK => ?_); go_simp; refine hK _ ?_; clear hK K)
  clear x_17 x_10 x_5 hc
  have hwd := (Later.refl w2).drew
  have HOk := hide (selR_ok R (c.1 == 85) cc)
  have HSm0 : Hid (smB R (c.1 == 85) cc = if (selR R (c.1 == 85) cc).2 = (0, 0, 0) then (selR R (c.1 == 85) cc).1 else cc) := rfl
  have HSel := hide (fun (W' : World) (h : Later w2 W') => mselect_c (.slice ar kr cr) R (c.1 == 85) cc W' ((HW.out.bs HKr.out).later h) (by have := HRl.out; omega))
  generalize hTe : selR R (c.1 == 85) cc = T at *
  obtain ⟨on, t⟩ := T
  have HTe := hide hTe
  clear hTe
  simp only at HOk HSm0 HSel
  refine wpM_nil (varsense_modes 60 (Plain.of (by kernel_rfl)) t (fun x W => x = .bool on) (fun x W W' hl h => h) (fun x W g s cs hB hg h => h) [.tmp 10, .tmp 17, .tmp 22] _ [.slice ar kr cr, .bool (c.1 == 85), .bool cc] rfl
    ⟨_, rfl, rfl, rfl, rfl⟩ ⟨_, rfl, rfl, rfl, rfl⟩ ⟨_, rfl, rfl, rfl, rfl⟩ ⟨_, rfl, rfl, rfl, rfl⟩ ⟨_, rfl, rfl, rfl, rfl⟩ ⟨_, rfl, rfl, rfl, rfl⟩ ⟨_, rfl, rfl, rfl, rfl⟩ (of_decide_eq_true (by kernel_rfl)) (by kernel_rfl) ?k4 ?k5)
  case k4 =>
    intro W' hW'
    refine (HSel.out W' (hwd.trans hW')).mono ?_
    rintro e w' ⟨rfl, hl⟩
    exact ⟨_, rfl, hl, rfl⟩
  intro x g4 w3 hL hb hK hg4
  subst hK
  have hl := hwd.trans hL
  replace HW := hide (HW.out.later hl)
  replace BS := hide (BS.out.later hl)
  replace HF : Hid (∀ g' t cs, g' ≠ g → Box W g' t cs → Box w3 g' t cs) := fun g' t cs q1 q2 => (HF.out g' t cs q1 q2).later hl
  have B4 := hide hb
  have HG4 : Hid (g4 ≠ g) := by
    have q1 := HW.out.2.1
    have q2 := hb
    exact fun e => by subst e; exact absurd (box_ne q1 q2 (by decide)) (by simp)
  clear hl hwd hL hb hg4 HSel
  simp only [Act.put, List.setIfInBounds_toArray, List.set_cons_succ, List.set_cons_zero]
  have s0 := B4.out.cell 0
  have s1 := B4.out.cell 1
  have s2 := B4.out.cell 2
  go_wp2_with fail
  refine (sgood_c t _ HOk.out).mono ?_
  rintro e w4 ⟨rfl, hl⟩
  replace HW := hide (HW.out.later hl)
  replace BS := hide (BS.out.later hl)
  replace B4 := hide (B4.out.later hl)
  replace HF : Hid (∀ g' t cs, g' ≠ g → Box W g' t cs → Box w4 g' t cs) := fun g' t cs q1 q2 => (HF.out g' t cs q1 q2).later hl
  clear hl s0 s1 s2
  by_cases hz : t = (0, 0, 0)
  · have ez : (t == (0, 0, 0)) = true := by simp [hz]
    have HSm : Hid (smB R (c.1 == 85) cc = on) := by rw [Hid, HSm0.out, if_pos hz]
    rw [ez]
    clear hz ez HSm0
    go_wp2_with (refine wpList_storeBo rfl 4 (.tmp 32) (.tmp 29) rfl g 5 rfl on rfl Try.info1_bool _ _ HW.out.2.1 (by simp) ?_)
    intro w5 h5
    have HA := HW.out.cache HG.out.1 on
    have BS2 := BS.out.apart g (fun e => HG.out.2.2 e.symm) [.bool on] 5
    have B42 := B4.out.apart g HG4.out [.bool on] 5
    have HF2 : ∀ g' t cs, g' ≠ g → Box W g' t cs → Box (w4.setCells g 5 [.bool on]) g' t cs := fun g' t cs q1 q2 => (HF.out g' t cs q1 q2).apart g q1 _ _
    rw [← h5.out] at HA BS2 B42 HF2
    replace HF := hide HF2
    replace HW := hide HA
    replace BS := hide BS2
    replace B4 := hide B42
    clear HA BS2 B42 HF2 h5
    have s0 := B4.out.cell 0
    have s1 := B4.out.cell 1
    have s2 := B4.out.cell 2
    go_wp2_with (refine wpList_storeU rfl 30 (.tmp 2) (.tmp 33) rfl gs 0 rfl (sc t) rfl Try.info_sense (sc_one _) _ _ BS.out (by simp) ?_)
    intro wz hz
    have BZ : Hid (Box wz gs 30 (sc t)) := by rw [hz.out]; exact BS.out.all _ rfl
    have HWz : Hid (WkA w1 g ab n cb aD k cD p r l on am m cm s c len took ar kr cr S F D M R wz) := by
      rw [hz.out]
      exact HW.out.other BS.out HG.out.2.2 (sc_nob _) (.inr fun b hb => by have := HAb.out b hb; omega) (by decide) HG.out.2.1 _ _
    have HFz : Hid (∀ g' t cs, g' ≠ g → Box W g' t cs → Box wz g' t cs) := by
      intro g' t cs q1 q2
      rw [hz.out]
      exact (HF.out g' t cs q1 q2).apart gs (by have := q2.lt; have := HGW.out; omega) _ _
    clear hz
    go_wp2
    refine bodyPost_ret (results_cell1 rfl _ _ _ gs 0 rfl (sval t) (shut3 BZ.out)) rfl ⟨by rw [HTe.out], ?_, HFz.out⟩
    rw [HSm.out]
    exact HWz.out
  · have ez : (t == (0, 0, 0)) = false := by simpa using hz
    have HSm : Hid (smB R (c.1 == 85) cc = cc) := by rw [Hid, HSm0.out, if_neg hz]
    rw [ez]
    clear hz ez HSm0
    have s0 := B4.out.cell 0
    have s1 := B4.out.cell 1
    have s2 := B4.out.cell 2
    go_wp2_with (refine wpList_storeU rfl 30 (.tmp 2) (.tmp 33) rfl gs 0 rfl (sc t) rfl Try.info_sense (sc_one _) _ _ BS.out (by simp) ?_)
    intro wz hz
    have BZ : Hid (Box wz gs 30 (sc t)) := by rw [hz.out]; exact BS.out.all _ rfl
    have HWz : Hid (WkA w1 g ab n cb aD k cD p r l cc am m cm s c len took ar kr cr S F D M R wz) := by
      rw [hz.out]
      exact HW.out.other BS.out HG.out.2.2 (sc_nob _) (.inr fun b hb => by have := HAb.out b hb; omega) (by decide) HG.out.2.1 _ _
    have HFz : Hid (∀ g' t cs, g' ≠ g → Box W g' t cs → Box wz g' t cs) := by
      intro g' t cs q1 q2
      rw [hz.out]
      exact (HF.out g' t cs q1 q2).apart gs (by have := q2.lt; have := HGW.out; omega) _ _
    clear hz
    go_wp2
    refine bodyPost_ret (results_cell1 rfl _ _ _ gs 0 rfl (sval t) (shut3 BZ.out)) rfl ⟨by rw [HTe.out], ?_, HFz.out⟩
    rw [HSm.out]
    exact HWz.out
set_option maxRecDepth 20000 in
set_option maxHeartbeats 4000000 in
theorem finish_c (hg : w1.heap.size ≤ g) (hW : WkA w1 g ab n cb aD k cD p r l cc am m cm s c len took ar kr cr S F D M R W) (hkr : kr = R.length) (hR : R.length ≤ 100000) (hc : OkC7 c) (hS : OkS S) (h1 : In64 len) (h2 : In64 took) :
    Calls Try.prog 32 #[.pointer (some ⟨g, 0, none⟩)] W fun e w' => e = .returned (sval (finR cc c len took R S).2) ∧ WkA w1 g ab n cb aD k cD p r l (finR cc c len took R S).1 am m cm s c len took ar kr cr S F D M R w' := by
  have HG0 := hide hg
  have HKr := hide hkr
  have HRl := hide hR
  have HC := hide hc
  have HS := hide hS
  have HI := hide (And.intro h1 h2)
  have HAb0 := hW.sns
  have hgW : g < W.heap.size := hW.2.1.lt
  have hszW : w1.heap.size ≤ W.heap.size := hW.1.size
  have HW := hide (hW.later ((Later.refl W).alloc (.cells #[.int .i64 0, .int .i64 0, .int .i64 0] 30)))
  have BS : Hid (Box (W.alloc (.cells #[.int .i64 0, .int .i64 0, .int .i64 0] 30)) W.heap.size 30 (sc (0, 0, 0))) := Box.new W 30 #[.int .i64 0, .int .i64 0, .int .i64 0]
  clear hg hW hkr hR hc hS h1 h2
  have y_0 := HW.out.2.1.cell 10
  have y_1 := HW.out.2.1.cell 11
  have y_2 := HW.out.2.1.cell 12
  have y_3 := HW.out.2.1.cell 13
  have y_4 := HW.out.2.1.cell 14
  have y_5 := HW.out.2.1.cell 15
  have y_6 := HW.out.2.1.cell 16
  have y_7 := HW.out.2.1.cell 17
  have y_8 := HW.out.2.1.cell 18
  have y_9 := HW.out.2.1.cell 19
  have y_10 := HW.out.2.1.cell 20
  go_enter Try.func32, Try.ntmps32
  go_wp2_with fail
  clear y_0 y_1 y_2 y_3 y_4 y_5 y_6 y_7 y_8 y_9 y_10
  generalize W.alloc (.cells #[.int .i64 0, .int .i64 0, .int .i64 0] 30) = w2 at *
  obtain ⟨gs, hgs⟩ : ∃ gs, gs = W.heap.size := ⟨_, rfl⟩
  rw [← hgs] at BS HAb0 ⊢
  have HAb := hide HAb0
  have HG : Hid (w1.heap.size ≤ g ∧ w1.heap.size ≤ gs ∧ g ≠ gs) := ⟨HG0.out, by omega, by omega⟩
  clear hgs hgW hszW HAb0 HG0
  have HT0 : Hid (finR cc c len took R S = if rightJ c len took R.length = false then (cc, (5, 26, 0)) else if S ≠ (0, 0, 0) then (cc, S) else if took < len then (cc, (5, 26, 0)) else if modeOp c.1 = false then (cc, (0, 0, 0)) else (smB R (c.1 == 85) cc, (selR R (c.1 == 85) cc).2)) := by
    rw [Hid, finR]
    unfold smB
    split
    · rfl
    split
    · rfl
    split
    · rfl
    split
    · rfl
    split
    · rename_i h; rw [h]
    · rfl
  refine (iright10 _ c len took R S w2 (show Jb w2 (jval c len took ar kr cr S) c len took R S from ⟨ar, cr, by rw [HKr.out], by have := HW.out.bs HKr.out; rwa [HKr.out] at this⟩) HC.out HI.out.1 HI.out.2).mono ?_
  rintro e w3 ⟨rfl, hl⟩
  replace HW := hide (HW.out.later hl)
  replace BS := hide (BS.out.later hl)
  clear hl
  cases hrj : rightJ c len took R.length with
  | false =>
    have HT : Hid (finR cc c len took R S = (cc, (5, 26, 0))) := by rw [Hid, HT0.out, if_pos hrj]
    clear hrj HT0
    go_wp2_with fail
    refine (con_Length _).mono ?_
    rintro e w4 ⟨rfl, hl⟩
    replace HW := hide (HW.out.later hl)
    replace BS := hide (BS.out.later hl)
    clear hl
    go_wp2_with (refine wpList_storeU rfl 30 (.tmp 2) (.tmp 11) rfl gs 0 rfl (sc (5, 26, 0)) rfl Try.info_sense (sc_one _) _ _ BS.out (by simp) ?_)
    intro wz hz
    have BZ : Hid (Box wz gs 30 (sc (5, 26, 0))) := by rw [hz.out]; exact BS.out.all _ rfl
    have HWz : Hid (WkA w1 g ab n cb aD k cD p r l cc am m cm s c len took ar kr cr S F D M R wz) := by
      rw [hz.out]
      exact HW.out.other BS.out HG.out.2.2 (sc_nob _) (.inr fun b hb => by have := HAb.out b hb; omega) (by decide) HG.out.2.1 _ _
    clear hz
    go_wp2
    refine bodyPost_ret (results_cell1 rfl _ _ _ gs 0 rfl (sval (5, 26, 0)) (shut3 BZ.out)) rfl ⟨by rw [HT.out], ?_⟩
    rw [HT.out]
    exact HWz.out
  | true =>
  rw [if_neg (by rw [hrj]; decide)] at HT0
  clear hrj
  have s0 := HW.out.2.1.cell 18
  have s1 := HW.out.2.1.cell 19
  have s2 := HW.out.2.1.cell 20
  go_wp2_with fail
  refine (sgood_c S _ HS.out).mono ?_
  rintro e w4 ⟨rfl, hl⟩
  replace HW := hide (HW.out.later hl)
  replace BS := hide (BS.out.later hl)
  clear hl s0 s1 s2
  by_cases hz : S = (0, 0, 0)
  case neg =>
    have ez : (S == (0, 0, 0)) = false := by simpa using hz
    have HT : Hid (finR cc c len took R S = (cc, S)) := by rw [Hid, HT0.out, if_pos hz]
    rw [ez]
    clear hz ez HT0
    have s0 := HW.out.2.1.cell 18
    have s1 := HW.out.2.1.cell 19
    have s2 := HW.out.2.1.cell 20
    go_wp2_with (refine wpList_storeU rfl 30 (.tmp 2) (.tmp 24) rfl gs 0 rfl (sc S) rfl Try.info_sense (sc_one _) _ _ BS.out (by simp) ?_)
    intro wz hz
    have BZ : Hid (Box wz gs 30 (sc S)) := by rw [hz.out]; exact BS.out.all _ rfl
    have HWz : Hid (WkA w1 g ab n cb aD k cD p r l cc am m cm s c len took ar kr cr S F D M R wz) := by
      rw [hz.out]
      exact HW.out.other BS.out HG.out.2.2 (sc_nob _) (.inr fun b hb => by have := HAb.out b hb; omega) (by decide) HG.out.2.1 _ _
    clear hz
    go_wp2
    refine bodyPost_ret (results_cell1 rfl _ _ _ gs 0 rfl (sval S) (shut3 BZ.out)) rfl ⟨by rw [HT.out], ?_⟩
    rw [HT.out]
    exact HWz.out
  have ez : (S == (0, 0, 0)) = true := by simp [hz]
  rw [if_neg (by simp [hz])] at HT0
  rw [ez]
  clear ez hz
  have hc := fun q => ((Later.refl w4).drew.trans (later_rg w4.drew q))
  have x_16 := fun q => (HW.out.2.1.later (hc q)).cell 16
  have x_15 := fun q => (HW.out.2.1.later (hc q)).cell 15
  go_wp2_with fail
  refine wp_region_sched ((List.range 12).map fun i => (i, false)) (by kernel_rfl) (by kernel_rfl) (by kernel_rfl) (by kernel_rfl) ?_
  simp only [List.range, List.range.loop, List.map, List.cons_append, List.nil_append]
  iterate 12 (refine wpS_mild rfl (fun K hK => ?_); go_simp; refine hK _ ?_; clear hK K)
  clear x_16 x_15 hc
  refine wpS_nil (fun w5 hwx => ?_)
  have hl := (Later.refl w4).drew.trans hwx
  replace HW := hide (HW.out.later hl)
  replace BS := hide (BS.out.later hl)
  clear hl hwx
  by_cases hlt : took < len
  · have HT : Hid (finR cc c len took R S = (cc, (5, 26, 0))) := by rw [Hid, HT0.out, if_pos hlt]
    clear HT0
    go_wp2_with fail
    refine (con_Length _).mono ?_
    rintro e w6 ⟨rfl, hl⟩
    replace HW := hide (HW.out.later hl)
    replace BS := hide (BS.out.later hl)
    clear hl hlt
    go_wp2_with (refine wpList_storeU rfl 30 (.tmp 2) (.tmp 37) rfl gs 0 rfl (sc (5, 26, 0)) rfl Try.info_sense (sc_one _) _ _ BS.out (by simp) ?_)
    intro wz hz
    have BZ : Hid (Box wz gs 30 (sc (5, 26, 0))) := by rw [hz.out]; exact BS.out.all _ rfl
    have HWz : Hid (WkA w1 g ab n cb aD k cD p r l cc am m cm s c len took ar kr cr S F D M R wz) := by
      rw [hz.out]
      exact HW.out.other BS.out HG.out.2.2 (sc_nob _) (.inr fun b hb => by have := HAb.out b hb; omega) (by decide) HG.out.2.1 _ _
    clear hz
    go_wp2
    refine bodyPost_ret (results_cell1 rfl _ _ _ gs 0 rfl (sval (5, 26, 0)) (shut3 BZ.out)) rfl ⟨by rw [HT.out], ?_⟩
    rw [HT.out]
    exact HWz.out
  rw [if_neg hlt] at HT0
  have x10 := HW.out.2.1.cell 10
  go_wp2_with fail
  refine (jselects_c _ _).mono ?_
  rintro e w6 ⟨rfl, hw⟩
  have hw2 := hw.symm
  subst hw2
  clear hw x10 hlt
  cases hm : modeOp c.1 with
  | true =>
    have HT : Hid (finR cc c len took R S = (smB R (c.1 == 85) cc, (selR R (c.1 == 85) cc).2)) := by rw [Hid, HT0.out, if_neg (by rw [hm]; decide)]
    clear hm HT0
    go_wp2_with fail
    have BS0 := hide BS.out
    refine (setModes_c HG.out.1 HW.out HKr.out HRl.out).mono ?_
    rintro e w6 ⟨rfl, hw, hf⟩
    replace BS := hide (hf gs _ _ (fun e => HG.out.2.2 e.symm) BS.out)
    replace HW := hide hw
    clear hw hf BS0
    generalize (selR R (c.1 == 85) cc).2 = t at *
    go_wp2_with (refine wpList_storeU rfl 30 (.tmp 2) (.tmp 47) rfl gs 0 rfl (sc t) rfl Try.info_sense (sc_one _) _ _ BS.out (by simp) ?_)
    intro wz hz
    have BZ : Hid (Box wz gs 30 (sc t)) := by rw [hz.out]; exact BS.out.all _ rfl
    have HWz : Hid (WkA w1 g ab n cb aD k cD p r l (smB R (c.1 == 85) cc) am m cm s c len took ar kr cr S F D M R wz) := by
      rw [hz.out]
      exact HW.out.other BS.out HG.out.2.2 (sc_nob _) (.inr fun b hb => by have := HAb.out b hb; omega) (by decide) HG.out.2.1 _ _
    clear hz
    go_wp2
    refine bodyPost_ret (results_cell1 rfl _ _ _ gs 0 rfl (sval t) (shut3 BZ.out)) rfl ⟨by rw [HT.out], ?_⟩
    rw [HT.out]
    exact HWz.out
  | false =>
    have HT : Hid (finR cc c len took R S = (cc, (0, 0, 0))) := by rw [Hid, HT0.out, if_pos hm]
    clear hm HT0
    go_wp2_with (refine wpList_storeU rfl 30 (.tmp 2) (.tmp 3) rfl gs 0 rfl (sc (0, 0, 0)) rfl Try.info_sense (sc_one _) _ _ BS.out (by simp) ?_)
    intro wz hz
    have BZ : Hid (Box wz gs 30 (sc (0, 0, 0))) := by rw [hz.out]; exact BS.out.all _ rfl
    have HWz : Hid (WkA w1 g ab n cb aD k cD p r l cc am m cm s c len took ar kr cr S F D M R wz) := by
      rw [hz.out]
      exact HW.out.other BS.out HG.out.2.2 (sc_nob _) (.inr fun b hb => by have := HAb.out b hb; omega) (by decide) HG.out.2.1 _ _
    clear hz
    go_wp2
    refine bodyPost_ret (results_cell1 rfl _ _ _ gs 0 rfl (sval (0, 0, 0)) (shut3 BZ.out)) rfl ⟨by rw [HT.out], ?_⟩
    rw [HT.out]
    exact HWz.out
end
end Go.Proofs.Ytbcikndebaeahaa

namespace Go.Proofs.Ytbcikndebaeahaa
open Go.ChangeShapes Go.WideShapes Go.ChangeAt Go.RowKit
set_option linter.unusedVariables false
set_option maxRecDepth 4000
set_option linter.unusedSimpArgs false
/-! The landed job: Finish. -/
def FnI (g8 g9 : Nat) (cs : List Value) (t : Sns) (W : World) : Prop := Box W g8 65 cs ∧ Box W g9 30 (sc t)
set_option maxRecDepth 20000 in
set_option maxHeartbeats 8000000 in
theorem ifin10 : IFin10 := by
  intro u v n F D p r l cc am m cm s M c len took R S w hU hA hJ hc hS h1 h2 hn hD hm1 hR
  obtain ⟨ab, cb, aD, k, cD, rfl, hm⟩ := hU
  obtain ⟨ar, cr, rfl, hr⟩ := hJ
  have HM0 := hide hm
  have HA0 := hide hA
  have HR0 := hide hr
  have HC := hide hc
  have HS := hide hS
  have HI := hide (And.intro h1 h2)
  have HNn := hide (And.intro hn (And.intro hD hm1))
  have HLn := hide hR
  have HOk : Hid (Ok D) := by obtain ⟨_, _, _, _, _, ho⟩ := hm; exact ho
  have HMl : Hid (m = M.length) := by
    obtain ⟨a', c', e'⟩ := hA.1.shape
    simp at e'
    exact e'.2.1
  obtain ⟨kr, hkr⟩ : ∃ kr, kr = R.length := ⟨_, rfl⟩
  rw [← hkr] at HR0 ⊢
  have HKr := hide hkr
  clear hm hA hr hc hS h1 h2 hn hD hm1 hR hkr
  have BU := hide ((((Box.new w 32 (uc ab n cb aD k cD p r l cc am m cm s).toArray).alloc (.cells (jc c len took ar kr cr S).toArray 38)).alloc (.cells (uc none 0 0 none 0 0 false false false false none 0 0 (0, 0, 0)).toArray 32)).alloc (.cells #[.int .i64 0, .int .i64 0, .int .i64 0] 30))
  have BJ : Hid (Box _ (w.heap.size + 1) 38 (jc c len took ar kr cr S)) := ((Box.new' (w.alloc (.cells (uc ab n cb aD k cD p r l cc am m cm s).toArray 32)) 38 (jc c len took ar kr cr S).toArray _ rfl _ (by simp)).alloc (.cells (uc none 0 0 none 0 0 false false false false none 0 0 (0, 0, 0)).toArray 32)).alloc (.cells #[.int .i64 0, .int .i64 0, .int .i64 0] 30)
  have BU3 : Hid (Box _ (w.heap.size + 1 + 1) 32 (uc none 0 0 none 0 0 false false false false none 0 0 (0, 0, 0))) := (Box.new' ((w.alloc (.cells (uc ab n cb aD k cD p r l cc am m cm s).toArray 32)).alloc (.cells (jc c len took ar kr cr S).toArray 38)) 32 (uc none 0 0 none 0 0 false false false false none 0 0 (0, 0, 0)).toArray _ rfl _ (by simp)).alloc (.cells #[.int .i64 0, .int .i64 0, .int .i64 0] 30)
  have BS4 : Hid (Box _ (w.heap.size + 1 + 1 + 1) 30 (sc (0, 0, 0))) := Box.new' (((w.alloc (.cells (uc ab n cb aD k cD p r l cc am m cm s).toArray 32)).alloc (.cells (jc c len took ar kr cr S).toArray 38)).alloc (.cells (uc none 0 0 none 0 0 false false false false none 0 0 (0, 0, 0)).toArray 32)) 30 #[.int .i64 0, .int .i64 0, .int .i64 0] _ rfl _ (by simp)
  have L1 := hide (((((Later.refl w).alloc (.cells (uc ab n cb aD k cD p r l cc am m cm s).toArray 32)).alloc (.cells (jc c len took ar kr cr S).toArray 38)).alloc (.cells (uc none 0 0 none 0 0 false false false false none 0 0 (0, 0, 0)).toArray 32)).alloc (.cells #[.int .i64 0, .int .i64 0, .int .i64 0] 30))
  have x_0 := BU.out.cell 0
  have x_1 := BU.out.cell 1
  have x_2 := BU.out.cell 2
  have x_3 := BU.out.cell 3
  have x_4 := BU.out.cell 4
  have x_5 := BU.out.cell 5
  have x_6 := BU.out.cell 6
  have x_7 := BU.out.cell 7
  have x_8 := BU.out.cell 8
  have x_9 := BU.out.cell 9
  have y_0 := BJ.out.cell 0
  have y_1 := BJ.out.cell 1
  have y_2 := BJ.out.cell 2
  have y_3 := BJ.out.cell 3
  have y_4 := BJ.out.cell 4
  have y_5 := BJ.out.cell 5
  have y_6 := BJ.out.cell 6
  have y_7 := BJ.out.cell 7
  have y_8 := BJ.out.cell 8
  have y_9 := BJ.out.cell 9
  have y_10 := BJ.out.cell 10
  go_enter Try.func12, Try.ntmps12
  go_wp2_with fail
  clear x_0 x_1 x_2 x_3 x_4 x_5 x_6 x_7 x_8 x_9
  clear y_0 y_1 y_2 y_3 y_4 y_5 y_6 y_7 y_8 y_9 y_10
  generalize (((w.alloc (.cells (uc ab n cb aD k cD p r l cc am m cm s).toArray 32)).alloc (.cells (jc c len took ar kr cr S).toArray 38)).alloc (.cells (uc none 0 0 none 0 0 false false false false none 0 0 (0, 0, 0)).toArray 32)).alloc (.cells #[.int .i64 0, .int .i64 0, .int .i64 0] 30) = w1 at *
  obtain ⟨g5, hg5⟩ : ∃ g5, g5 = w.heap.size + 1 + 1 + 1 := ⟨_, rfl⟩
  obtain ⟨g4, hg4⟩ : ∃ g4, g4 = w.heap.size + 1 + 1 := ⟨_, rfl⟩
  rw [← hg5] at BS4 ⊢
  rw [← hg4] at BU3 ⊢
  have HG0 : Hid (w.heap.size ≤ g4 ∧ w.heap.size ≤ g5 ∧ g4 ≠ g5 ∧ g4 < w1.heap.size ∧ g5 < w1.heap.size) := ⟨by omega, by omega, by omega, BU3.out.lt, BS4.out.lt⟩
  clear hg5 hg4 BU BJ
  refine (nworker_c (M := M) (F := F) (D := D) (R := R) w1 (HM0.out.later L1.out) (HA0.out.later L1.out) (HR0.out.later L1.out) (by have := HNn.out; omega) (by have := HNn.out; omega) (by have := HNn.out; omega) HLn.out).mono ?_
  rintro e w2 ⟨xb, xcb, xd, xcD, am', cm', xr, xcr, rfl, hl, ho, hnn⟩
  have HN := hide hnn
  have HO := hide ho
  have L2 := hide hl
  clear hl ho hnn
  go_wp2_with (refine wpList_newW10 rfl rfl rfl 6 rfl (by simp) (.tmp 10) (by simp) rfl xb n xcb xd k xcD p r l cc am' m cm' s c len took xr kr xcr S rfl ?_)
  intro g8 w3 hB8 hl hg
  have HG8 : Hid (w1.heap.size ≤ g8) := by rw [Hid, hg.out.1]; exact L2.out.size
  have HW : Hid (WkA w1 g8 xb n xcb xd k xcD p r l cc am' m cm' s c len took xr kr xcr S F D M R w3) := by
    obtain ⟨o1, o2, o3, o4⟩ := HO.out
    refine ⟨L2.out.trans hl, hB8, ⟨_, _, rfl, (Rw.of_owns o1).later hl, ?_, HOk.out⟩, owns_later o3 hl, owns_later o4 hl, fun b hb => ⟨off_own (own_ne_own o4 o1 (by decide) b hb), off_own (own_ne_own o4 o2 (by decide) b hb)⟩⟩
    have hkD : k = D.length := by
      obtain ⟨vb, vd, e, _, hd, _⟩ := HM0.out
      simp at e
      obtain ⟨rfl, rfl⟩ := e
      obtain ⟨_, _, a', c', e', _⟩ := hd
      simp at e'
      exact e'.2.1
    have h := (Rw.of_owns o2).later hl
    rw [hkD] at h ⊢
    exact h
  have HGs : Hid (w.heap.size ≤ g4 ∧ w.heap.size ≤ g5 ∧ g4 ≠ g5 ∧ g8 ≠ g4 ∧ g8 ≠ g5) := by
    have q1 := HG0.out
    have q2 := HG8.out
    exact ⟨q1.1, q1.2.1, q1.2.2.1, by omega, by omega⟩
  clear hB8 hl hg HO L2
  go_wp2_with fail
  refine (finish_c HG8.out HW.out HKr.out HLn.out HC.out HS.out HI.out.1 HI.out.2).mono ?_
  rintro e w4 ⟨rfl, hw⟩
  replace HW := hide hw
  clear hw
  generalize hTe : finR cc c len took R S = T at *
  obtain ⟨cc2, t⟩ := T
  have HTe := hide hTe
  clear hTe
  simp only at HW ⊢
  go_wp2_with (refine wpList_newS rfl rfl rfl 7 rfl (by simp) (.tmp 11) (by simp) rfl t rfl ?_)
  intro g9 w5 hB9 hl hg
  have HG9 : Hid (g9 ≠ g4 ∧ g9 ≠ g5) := by
    have q1 := HG0.out
    have q2 := HW.out.1.size
    have q3 := hg.out.1
    exact ⟨by omega, by omega⟩
  replace HW := hide (HW.out.later hl)
  have B9 := hide hB9
  clear hB9 hl hg HG0
  go_wp2_with fail
  have HI2 : Hid (FnI g8 g9 (wc xb n xcb xd k xcD p r l cc2 am' m cm' s c len took xr kr xcr S) t w5) := ⟨HW.out.2.1, B9.out⟩
  refine wp_region_held (FnI g8 g9 (wc xb n xcb xd k xcD p r l cc2 am' m cm' s c len took xr kr xcr S) t) (fun a b hl h => ⟨h.1.later hl, h.2.later hl⟩) HI2.out [(0, false), (1, false), (2, false), (3, true), (4, true)] (by kernel_rfl) (by kernel_rfl) (by kernel_rfl) (by kernel_rfl) ?_
  haveI : Nonempty (Held (FnI g8 g9 (wc xb n xcb xd k xcD p r l cc2 am' m cm' s c len took xr kr xcr S) t)) := ⟨⟨_, HI2.out⟩⟩
  have x_0 := fun q' : Held (FnI g8 g9 (wc xb n xcb xd k xcD p r l cc2 am' m cm' s c len took xr kr xcr S) t) => q'.h.1.cell 0
  have x_1 := fun q' : Held (FnI g8 g9 (wc xb n xcb xd k xcD p r l cc2 am' m cm' s c len took xr kr xcr S) t) => q'.h.1.cell 1
  have x_2 := fun q' : Held (FnI g8 g9 (wc xb n xcb xd k xcD p r l cc2 am' m cm' s c len took xr kr xcr S) t) => q'.h.1.cell 2
  have x_3 := fun q' : Held (FnI g8 g9 (wc xb n xcb xd k xcD p r l cc2 am' m cm' s c len took xr kr xcr S) t) => q'.h.1.cell 3
  have x_4 := fun q' : Held (FnI g8 g9 (wc xb n xcb xd k xcD p r l cc2 am' m cm' s c len took xr kr xcr S) t) => q'.h.1.cell 4
  have x_5 := fun q' : Held (FnI g8 g9 (wc xb n xcb xd k xcD p r l cc2 am' m cm' s c len took xr kr xcr S) t) => q'.h.1.cell 5
  have x_6 := fun q' : Held (FnI g8 g9 (wc xb n xcb xd k xcD p r l cc2 am' m cm' s c len took xr kr xcr S) t) => q'.h.1.cell 6
  have x_7 := fun q' : Held (FnI g8 g9 (wc xb n xcb xd k xcD p r l cc2 am' m cm' s c len took xr kr xcr S) t) => q'.h.1.cell 7
  have x_8 := fun q' : Held (FnI g8 g9 (wc xb n xcb xd k xcD p r l cc2 am' m cm' s c len took xr kr xcr S) t) => q'.h.1.cell 8
  have x_9 := fun q' : Held (FnI g8 g9 (wc xb n xcb xd k xcD p r l cc2 am' m cm' s c len took xr kr xcr S) t) => q'.h.1.cell 9
  have t0 := fun q' : Held (FnI g8 g9 (wc xb n xcb xd k xcD p r l cc2 am' m cm' s c len took xr kr xcr S) t) => q'.h.2.cell 0
  have t1 := fun q' : Held (FnI g8 g9 (wc xb n xcb xd k xcD p r l cc2 am' m cm' s c len took xr kr xcr S) t) => q'.h.2.cell 1
  have t2 := fun q' : Held (FnI g8 g9 (wc xb n xcb xd k xcD p r l cc2 am' m cm' s c len took xr kr xcr S) t) => q'.h.2.cell 2
  replace HW := hide (HW.out.later (Later.refl _).drew)
  replace HI2 : Hid (FnI g8 g9 (wc xb n xcb xd k xcD p r l cc2 am' m cm' s c len took xr kr xcr S) t w5.drew) := ⟨HI2.out.1.later (Later.refl _).drew, HI2.out.2.later (Later.refl _).drew⟩
  iterate 3 (refine wpJ_mild rfl (fun K hK => ?_); go_simp; refine hK _ ?_; clear hK K)
  clear x_0 x_1 x_2 x_3 x_4 x_5 x_6 x_7 x_8 x_9
  clear t0 t1 t2 B9
  have B3 := hide (BU3.out.later HW.out.1)
  refine wpJ_store rfl rfl 32 (.tmp 4) (.tmp 13) rfl g4 (uc xb n xcb xd k xcD p r l cc2 am' m cm' s) rfl rfl Try.info_unit (uc_one _ _ _ _ _ _ _ _ _ _ _ _ _ _) _ _ B3.out (by simp) (fun W hW => ⟨(HI2.out.1.later hW).apart _ (by have := HGs.out; omega) _ _, (HI2.out.2.later hW).apart _ HG9.out.1 _ _⟩) ?_
  intro wl hl wz hz
  replace B3 := hide (B3.out.later hl)
  replace HW := hide (HW.out.later hl)
  have B4 := hide (BS4.out.later HW.out.1)
  obtain ⟨_, HWb, HWm, HWs, _, _⟩ := HW.out
  have HM2 := HWm.setNoB B3.out (uc_nob _ _ _ _ _ _ _ _ _ _ _ _ _ _) (uc xb n xcb xd k xcD p r l cc2 am' m cm' s) 0
  have HS2 := owns_setBox10 HWs B3.out (by decide) (uc xb n xcb xd k xcD p r l cc2 am' m cm' s) 0
  have HB2 : FnI g8 g9 (wc xb n xcb xd k xcD p r l cc2 am' m cm' s c len took xr kr xcr S) t (wl.setCells g4 0 (uc xb n xcb xd k xcD p r l cc2 am' m cm' s)) := ⟨(HI2.out.1.later hl).apart _ (by have := HGs.out; omega) _ _, (HI2.out.2.later hl).apart _ HG9.out.1 _ _⟩
  have HL2 := (L1.out.trans HW.out.1).setCells (g := g4) (by have := HGs.out; omega) (uc xb n xcb xd k xcD p r l cc2 am' m cm' s) 0
  have B32 := B3.out.all (uc xb n xcb xd k xcD p r l cc2 am' m cm' s) rfl
  have B42 := B4.out.apart g4 (by have := HGs.out; omega) (uc xb n xcb xd k xcD p r l cc2 am' m cm' s) 0
  have HSg : Hid (∀ b, (Value.slice am' m cm').ownBlock = some b → b ≠ g5) := fun b hb => by
    have q1 := (HWs.lt b hb).1
    have q2 := BS4.out.lt
    omega
  rw [← hz.out] at HM2 HS2 HB2 HL2 B32 B42
  replace B3 := hide B32
  replace B4 := hide B42
  have HM := hide HM2
  have HSn := hide HS2
  have LZ := hide HL2
  replace HI2 := hide HB2
  clear HM2 HS2 HB2 HL2 B32 B42 HWb HWm HWs hz hl HW
  refine wpJ_store rfl rfl 30 (.tmp 5) (.tmp 14) rfl g5 (sc t) rfl rfl Try.info_sense (sc_one _) _ _ B4.out (by simp) (fun W hW => ⟨(HI2.out.1.later hW).apart _ (by have := HGs.out; omega) _ _, (HI2.out.2.later hW).apart _ HG9.out.2 _ _⟩) ?_
  intro wl hl wy hy
  have HM2 := (HM.out.later hl).setNoB (B4.out.later hl) (sc_nob _) (sc t) 0
  have HS2 := owns_kept (owns_later HSn.out hl) (w' := wl.setCells g5 0 (sc t)) fun k hk => heap_setCells_other wl g5 k (HSg.out k hk) _ _
  have HL2 := (LZ.out.trans hl).setCells (g := g5) (by have := HGs.out; omega) (sc t) 0
  have B42 := (B4.out.later hl).all (sc t) rfl
  have B32 := (B3.out.later hl).apart g5 (by have := HGs.out; omega) (sc t) 0
  rw [← hy.out] at HM2 HS2 HL2 B32 B42
  replace B3 := hide B32
  replace B4 := hide B42
  replace HM := hide HM2
  replace HSn := hide HS2
  replace LZ := hide HL2
  clear HM2 HS2 HL2 B32 B42 HI2 hy hl
  refine wpJ_nil (fun wn hn => ?_)
  replace B3 := hide (B3.out.later hn)
  replace B4 := hide (B4.out.later hn)
  replace HM := hide (HM.out.later hn)
  replace HSn := hide (owns_later HSn.out hn)
  replace LZ := hide (LZ.out.trans hn)
  clear hn
  go_wp2
  refine bodyPost_ret (results_cell_cell' rfl _ _ _ g4 0 g5 0 rfl rfl _ _ (load_unit B3.out rfl) (shut3 B4.out)) rfl ⟨uval xb n xcb xd k xcD p r l cc2 am' m cm' s, by rw [HTe.out], LZ.out, am', cm', by rw [HTe.out]; exact ⟨_, _, _, _, _, rfl, HM.out⟩, by rw [← HMl.out]; exact owns_rebase HSn.out L1.out.size, HN.out⟩
end Go.Proofs.Ytbcikndebaeahaa
