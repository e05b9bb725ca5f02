import Derived.Test.YtccdgpadjfjoeaaMAI
namespace Go.Proofs.Ytccdgpadjfjoeaa
open Go.ChangeShapes Go.WideShapes Go.ChangeAt Go.RowKit
set_option linter.unusedVariables false
set_option linter.unusedSimpArgs false

/-! formOf. -/
abbrev IForm (op : Int) : Prop := ∀ w, Calls Try.prog 20 #[.int .i64 op] w fun e w' => ∃ v, e = .returned (.tuple #[v, .bool (knownB op)]) ∧ Later w w' ∧ FormV w' v (formN op)
set_option maxHeartbeats 1000000 in
theorem form_0 : IForm 0 := by
  intro w
  have hc := show classI 0 = 0 from rfl
  go_enter Try.func20, Try.ntmps20
  go_wp2_with
    (first | (go_at_call 32; refine (some_c _ _ _ _).mono ?_; rintro e w' ⟨rfl, hw⟩; have hw2 := hw.symm; subst hw2) | (go_at_call 31; refine (whole_c _ _ _ (by decide) (by decide)).mono ?_; rintro e w' ⟨rfl, hw⟩; have hw2 := hw.symm; subst hw2) | (go_at_call 14; refine (class_c _ _).mono ?_; rintro e w' ⟨rfl, hw⟩; have hw2 := hw.symm; subst hw2))
  refine bodyPost_ret (results_cell_tmp rfl _ _ _ w.heap.size 0 rfl _ (.bool (knownB 0)) (load_form (f := formN 0) (s := .slice none 0 0) (Box.new w _ _) (by rfl)) (by rfl)) rfl ⟨_, rfl, ((Later.refl w).alloc _), .slice none 0 0, rfl, (rw_none3 _)⟩
set_option maxHeartbeats 1000000 in
theorem form_3 : IForm 3 := by
  intro w
  have hc := show classI 3 = 0 from rfl
  go_enter Try.func20, Try.ntmps20
  go_wp2_with
    (first | (go_at_call 32; refine (some_c _ _ _ _).mono ?_; rintro e w' ⟨rfl, hw⟩; have hw2 := hw.symm; subst hw2) | (go_at_call 31; refine (whole_c _ _ _ (by decide) (by decide)).mono ?_; rintro e w' ⟨rfl, hw⟩; have hw2 := hw.symm; subst hw2) | (go_at_call 14; refine (class_c _ _).mono ?_; rintro e w' ⟨rfl, hw⟩; have hw2 := hw.symm; subst hw2))
  refine bodyPost_ret (results_cell_tmp rfl _ _ _ w.heap.size 0 rfl _ (.bool (knownB 3)) (load_form (f := formN 3) (s := .slice (some ⟨w.heap.size + 1, 0, none⟩) 1 1) ((Box.new w _ _).alloc _) (by rfl)) (by rfl)) rfl ⟨_, rfl, (((Later.refl w).alloc _).alloc _), .slice (some ⟨w.heap.size + 1, 0, none⟩) 1 1, rfl, (rw_of_box3 (Box.new' _ _ _ _ rfl _ (by simp)) (by rfl) (by rfl) (by rfl) (by decide))⟩
set_option maxHeartbeats 1000000 in
theorem form_18 : IForm 18 := by
  intro w
  have hc := show classI 18 = 0 from rfl
  go_enter Try.func20, Try.ntmps20
  go_wp2_with
    (first | (go_at_call 32; refine (some_c _ _ _ _).mono ?_; rintro e w' ⟨rfl, hw⟩; have hw2 := hw.symm; subst hw2) | (go_at_call 31; refine (whole_c _ _ _ (by decide) (by decide)).mono ?_; rintro e w' ⟨rfl, hw⟩; have hw2 := hw.symm; subst hw2) | (go_at_call 14; refine (class_c _ _).mono ?_; rintro e w' ⟨rfl, hw⟩; have hw2 := hw.symm; subst hw2))
  refine bodyPost_ret (results_cell_tmp rfl _ _ _ w.heap.size 0 rfl _ (.bool (knownB 18)) (load_form (f := formN 18) (s := .slice none 0 0) (Box.new w _ _) (by rfl)) (by rfl)) rfl ⟨_, rfl, ((Later.refl w).alloc _), .slice none 0 0, rfl, (rw_none3 _)⟩
set_option maxHeartbeats 1000000 in
theorem form_27 : IForm 27 := by
  intro w
  have hc := show classI 27 = 0 from rfl
  go_enter Try.func20, Try.ntmps20
  go_wp2_with
    (first | (go_at_call 32; refine (some_c _ _ _ _).mono ?_; rintro e w' ⟨rfl, hw⟩; have hw2 := hw.symm; subst hw2) | (go_at_call 31; refine (whole_c _ _ _ (by decide) (by decide)).mono ?_; rintro e w' ⟨rfl, hw⟩; have hw2 := hw.symm; subst hw2) | (go_at_call 14; refine (class_c _ _).mono ?_; rintro e w' ⟨rfl, hw⟩; have hw2 := hw.symm; subst hw2))
  refine bodyPost_ret (results_cell_tmp rfl _ _ _ w.heap.size 0 rfl _ (.bool (knownB 27)) (load_form (f := formN 27) (s := .slice (some ⟨w.heap.size + 1, 0, none⟩) 1 1) ((Box.new w _ _).alloc _) (by rfl)) (by rfl)) rfl ⟨_, rfl, (((Later.refl w).alloc _).alloc _), .slice (some ⟨w.heap.size + 1, 0, none⟩) 1 1, rfl, (rw_of_box3 (Box.new' _ _ _ _ rfl _ (by simp)) (by rfl) (by rfl) (by rfl) (by decide))⟩
set_option maxHeartbeats 1000000 in
theorem form_30 : IForm 30 := by
  intro w
  have hc := show classI 30 = 0 from rfl
  go_enter Try.func20, Try.ntmps20
  go_wp2_with
    (first | (go_at_call 32; refine (some_c _ _ _ _).mono ?_; rintro e w' ⟨rfl, hw⟩; have hw2 := hw.symm; subst hw2) | (go_at_call 31; refine (whole_c _ _ _ (by decide) (by decide)).mono ?_; rintro e w' ⟨rfl, hw⟩; have hw2 := hw.symm; subst hw2) | (go_at_call 14; refine (class_c _ _).mono ?_; rintro e w' ⟨rfl, hw⟩; have hw2 := hw.symm; subst hw2))
  refine bodyPost_ret (results_cell_tmp rfl _ _ _ w.heap.size 0 rfl _ (.bool (knownB 30)) (load_form (f := formN 30) (s := .slice (some ⟨w.heap.size + 1, 0, none⟩) 1 1) ((Box.new w _ _).alloc _) (by rfl)) (by rfl)) rfl ⟨_, rfl, (((Later.refl w).alloc _).alloc _), .slice (some ⟨w.heap.size + 1, 0, none⟩) 1 1, rfl, (rw_of_box3 (Box.new' _ _ _ _ rfl _ (by simp)) (by rfl) (by rfl) (by rfl) (by decide))⟩
set_option maxHeartbeats 1000000 in
theorem form_37 : IForm 37 := by
  intro w
  have hc := show classI 37 = 0 from rfl
  go_enter Try.func20, Try.ntmps20
  go_wp2_with
    (first | (go_at_call 32; refine (some_c _ _ _ _).mono ?_; rintro e w' ⟨rfl, hw⟩; have hw2 := hw.symm; subst hw2) | (go_at_call 31; refine (whole_c _ _ _ (by decide) (by decide)).mono ?_; rintro e w' ⟨rfl, hw⟩; have hw2 := hw.symm; subst hw2) | (go_at_call 14; refine (class_c _ _).mono ?_; rintro e w' ⟨rfl, hw⟩; have hw2 := hw.symm; subst hw2))
  refine bodyPost_ret (results_cell_tmp rfl _ _ _ w.heap.size 0 rfl _ (.bool (knownB 37)) (load_form (f := formN 37) (s := .slice (some ⟨w.heap.size + 1, 0, none⟩) 2 2) ((Box.new w _ _).alloc _) (by rfl)) (by rfl)) rfl ⟨_, rfl, (((Later.refl w).alloc _).alloc _), .slice (some ⟨w.heap.size + 1, 0, none⟩) 2 2, rfl, (rw_of_box3 (Box.new' _ _ _ _ rfl _ (by simp)) (by rfl) (by rfl) (by rfl) (by decide))⟩
set_option maxHeartbeats 1000000 in
theorem form_158 : IForm 158 := by
  intro w
  have hc := show classI 158 = 0 from rfl
  go_enter Try.func20, Try.ntmps20
  go_wp2_with
    (first | (go_at_call 32; refine (some_c _ _ _ _).mono ?_; rintro e w' ⟨rfl, hw⟩; have hw2 := hw.symm; subst hw2) | (go_at_call 31; refine (whole_c _ _ _ (by decide) (by decide)).mono ?_; rintro e w' ⟨rfl, hw⟩; have hw2 := hw.symm; subst hw2) | (go_at_call 14; refine (class_c _ _).mono ?_; rintro e w' ⟨rfl, hw⟩; have hw2 := hw.symm; subst hw2))
  refine bodyPost_ret (results_cell_tmp rfl _ _ _ w.heap.size 0 rfl _ (.bool (knownB 158)) (load_form (f := formN 158) (s := .slice (some ⟨w.heap.size + 1, 0, none⟩) 1 1) ((Box.new w _ _).alloc _) (by rfl)) (by rfl)) rfl ⟨_, rfl, (((Later.refl w).alloc _).alloc _), .slice (some ⟨w.heap.size + 1, 0, none⟩) 1 1, rfl, (rw_of_box3 (Box.new' _ _ _ _ rfl _ (by simp)) (by rfl) (by rfl) (by rfl) (by decide))⟩
set_option maxHeartbeats 1000000 in
theorem form_160 : IForm 160 := by
  intro w
  have hc := show classI 160 = 0 from rfl
  go_enter Try.func20, Try.ntmps20
  go_wp2_with
    (first | (go_at_call 32; refine (some_c _ _ _ _).mono ?_; rintro e w' ⟨rfl, hw⟩; have hw2 := hw.symm; subst hw2) | (go_at_call 31; refine (whole_c _ _ _ (by decide) (by decide)).mono ?_; rintro e w' ⟨rfl, hw⟩; have hw2 := hw.symm; subst hw2) | (go_at_call 14; refine (class_c _ _).mono ?_; rintro e w' ⟨rfl, hw⟩; have hw2 := hw.symm; subst hw2))
  refine bodyPost_ret (results_cell_tmp rfl _ _ _ w.heap.size 0 rfl _ (.bool (knownB 160)) (load_form (f := formN 160) (s := .slice (some ⟨w.heap.size + 1, 0, none⟩) 2 2) ((Box.new w _ _).alloc _) (by rfl)) (by rfl)) rfl ⟨_, rfl, (((Later.refl w).alloc _).alloc _), .slice (some ⟨w.heap.size + 1, 0, none⟩) 2 2, rfl, (rw_of_box3 (Box.new' _ _ _ _ rfl _ (by simp)) (by rfl) (by rfl) (by rfl) (by decide))⟩
/-- a row of rules lies in no variable that holds a form: its second cell is a u64 -/
theorem rw_off6 {w : World} {s : Value} {L : List Rul} {g : Nat} {t : TypeId} {f : List Value} (h : Rw 3 w s L.length (rv L)) (hB : Box w g t f) (hf : ∀ u ∈ f, ∀ x : Int, u ≠ .int .u64 x) (vs : List Value) (o : Nat) : Rw 3 (w.setCells g o vs) s L.length (rv L) := by
  obtain ⟨h1, h2, a, cap, rfl, h3, h4⟩ := h
  refine ⟨h1, h2, a, cap, rfl, h3, ?_⟩
  rcases h4 with h4 | ⟨b, off, rfl, hr⟩
  · exact .inl h4
  match L, hr with
  | [], _ => exact .inr ⟨b, off, rfl, fun j v hv => by simp [rv] at hv⟩
  | r :: L, hr =>
    have hb : b ≠ g := by
      intro e
      subst e
      have := hr 1 (.int .u64 (r.2.1 : Int)) (by simp [rv, rc])
      rw [hB.cell (off + 1)] at this
      exact hf _ (List.mem_of_getElem? this) _ rfl
    refine .inr ⟨b, off, rfl, fun j v hv => ?_⟩
    have h0 := hr j v hv
    have e := heap_setCells_other w g b hb vs o
    unfold World.cell? at h0 ⊢
    simp only [e]
    exact h0
set_option maxHeartbeats 1000000 in
theorem form_8 : IForm 8 := by
  intro w
  have hc := show classI 8 = 1 from rfl
  have BR := hide (Box.new w 47 #[.int .u16 0, .int .u16 0, .int .u16 0, .int .u16 0, .int .i64 0, .slice none 0 0])
  have L0 := hide ((Later.refl w).alloc (.cells #[.int .u16 0, .int .u16 0, .int .u16 0, .int .u16 0, .int .i64 0, .slice none 0 0] 47))
  go_enter Try.func20, Try.ntmps20
  go_wp2_with
    (first | (go_at_call 32; refine (some_c _ _ _ _).mono ?_; rintro e w' ⟨rfl, hw⟩; have hw2 := hw.symm; subst hw2) | (go_at_call 31; refine (whole_c _ _ _ (by decide) (by decide)).mono ?_; rintro e w' ⟨rfl, hw⟩; have hw2 := hw.symm; subst hw2) | (go_at_call 14; refine (class_c _ _).mono ?_; rintro e w' ⟨rfl, hw⟩; have hw2 := hw.symm; subst hw2))
  refine (bform_8 _).mono ?_
  rintro e w1 ⟨v, rfl, hl, s, rfl, hr⟩
  have hs : Hid (s.oneCell' = true) := by obtain ⟨_, _, a, c, rfl, _⟩ := hr; rfl
  replace BR := hide (BR.out.later hl)
  replace L0 := hide (L0.out.trans hl)
  have HR := hide hr
  clear hl hr
  go_wp2_with (refine wpList_storeU rfl 47 (.tmp 2) (.tmp 8) rfl w.heap.size 0 rfl (fc (formN 8) s) rfl Try.info_form (fc_one _ s hs.out) _ _ BR.out (by simp) ?_)
  intro w2 hw2
  have BS : Hid (Box w2 w.heap.size 47 (fc (formN 8) s)) := by rw [hw2.out]; exact BR.out.all _ rfl
  have LS : Hid (Later w w2) := by rw [hw2.out]; exact L0.out.setCells (Nat.le_refl _) _ _
  have RS : Hid (Rw 3 w2 s ((formN 8)).2.2.2.2.2.length (rv ((formN 8)).2.2.2.2.2)) := by
    rw [hw2.out]
    exact rw_off6 HR.out BR.out (by simp) _ _
  clear hw2
  go_wp2
  refine bodyPost_ret (results_cell_tmp rfl _ _ _ w.heap.size 0 rfl _ (.bool (knownB 8)) (load_form (f := (formN 8)) (s := s) BS.out (by rfl)) (by rfl)) rfl ⟨_, rfl, LS.out, s, rfl, RS.out⟩
set_option maxHeartbeats 1000000 in
theorem form_10 : IForm 10 := by
  intro w
  have hc := show classI 10 = 2 from rfl
  have BR := hide (Box.new w 47 #[.int .u16 0, .int .u16 0, .int .u16 0, .int .u16 0, .int .i64 0, .slice none 0 0])
  have L0 := hide ((Later.refl w).alloc (.cells #[.int .u16 0, .int .u16 0, .int .u16 0, .int .u16 0, .int .i64 0, .slice none 0 0] 47))
  go_enter Try.func20, Try.ntmps20
  go_wp2_with
    (first | (go_at_call 32; refine (some_c _ _ _ _).mono ?_; rintro e w' ⟨rfl, hw⟩; have hw2 := hw.symm; subst hw2) | (go_at_call 31; refine (whole_c _ _ _ (by decide) (by decide)).mono ?_; rintro e w' ⟨rfl, hw⟩; have hw2 := hw.symm; subst hw2) | (go_at_call 14; refine (class_c _ _).mono ?_; rintro e w' ⟨rfl, hw⟩; have hw2 := hw.symm; subst hw2))
  refine (bform_10 _).mono ?_
  rintro e w1 ⟨v, rfl, hl, s, rfl, hr⟩
  have hs : Hid (s.oneCell' = true) := by obtain ⟨_, _, a, c, rfl, _⟩ := hr; rfl
  replace BR := hide (BR.out.later hl)
  replace L0 := hide (L0.out.trans hl)
  have HR := hide hr
  clear hl hr
  go_wp2_with (refine wpList_storeU rfl 47 (.tmp 2) (.tmp 8) rfl w.heap.size 0 rfl (fc (formN 10) s) rfl Try.info_form (fc_one _ s hs.out) _ _ BR.out (by simp) ?_)
  intro w2 hw2
  have BS : Hid (Box w2 w.heap.size 47 (fc (formN 10) s)) := by rw [hw2.out]; exact BR.out.all _ rfl
  have LS : Hid (Later w w2) := by rw [hw2.out]; exact L0.out.setCells (Nat.le_refl _) _ _
  have RS : Hid (Rw 3 w2 s ((formN 10)).2.2.2.2.2.length (rv ((formN 10)).2.2.2.2.2)) := by
    rw [hw2.out]
    exact rw_off6 HR.out BR.out (by simp) _ _
  clear hw2
  go_wp2
  refine bodyPost_ret (results_cell_tmp rfl _ _ _ w.heap.size 0 rfl _ (.bool (knownB 10)) (load_form (f := (formN 10)) (s := s) BS.out (by rfl)) (by rfl)) rfl ⟨_, rfl, LS.out, s, rfl, RS.out⟩
set_option maxHeartbeats 1000000 in
theorem form_40 : IForm 40 := by
  intro w
  have hc := show classI 40 = 1 from rfl
  have BR := hide (Box.new w 47 #[.int .u16 0, .int .u16 0, .int .u16 0, .int .u16 0, .int .i64 0, .slice none 0 0])
  have L0 := hide ((Later.refl w).alloc (.cells #[.int .u16 0, .int .u16 0, .int .u16 0, .int .u16 0, .int .i64 0, .slice none 0 0] 47))
  go_enter Try.func20, Try.ntmps20
  go_wp2_with
    (first | (go_at_call 32; refine (some_c _ _ _ _).mono ?_; rintro e w' ⟨rfl, hw⟩; have hw2 := hw.symm; subst hw2) | (go_at_call 31; refine (whole_c _ _ _ (by decide) (by decide)).mono ?_; rintro e w' ⟨rfl, hw⟩; have hw2 := hw.symm; subst hw2) | (go_at_call 14; refine (class_c _ _).mono ?_; rintro e w' ⟨rfl, hw⟩; have hw2 := hw.symm; subst hw2))
  refine (bform_40 _).mono ?_
  rintro e w1 ⟨v, rfl, hl, s, rfl, hr⟩
  have hs : Hid (s.oneCell' = true) := by obtain ⟨_, _, a, c, rfl, _⟩ := hr; rfl
  replace BR := hide (BR.out.later hl)
  replace L0 := hide (L0.out.trans hl)
  have HR := hide hr
  clear hl hr
  go_wp2_with (refine wpList_storeU rfl 47 (.tmp 2) (.tmp 8) rfl w.heap.size 0 rfl (fc (formN 40) s) rfl Try.info_form (fc_one _ s hs.out) _ _ BR.out (by simp) ?_)
  intro w2 hw2
  have BS : Hid (Box w2 w.heap.size 47 (fc (formN 40) s)) := by rw [hw2.out]; exact BR.out.all _ rfl
  have LS : Hid (Later w w2) := by rw [hw2.out]; exact L0.out.setCells (Nat.le_refl _) _ _
  have RS : Hid (Rw 3 w2 s ((formN 40)).2.2.2.2.2.length (rv ((formN 40)).2.2.2.2.2)) := by
    rw [hw2.out]
    exact rw_off6 HR.out BR.out (by simp) _ _
  clear hw2
  go_wp2
  refine bodyPost_ret (results_cell_tmp rfl _ _ _ w.heap.size 0 rfl _ (.bool (knownB 40)) (load_form (f := (formN 40)) (s := s) BS.out (by rfl)) (by rfl)) rfl ⟨_, rfl, LS.out, s, rfl, RS.out⟩
set_option maxHeartbeats 1000000 in
theorem form_42 : IForm 42 := by
  intro w
  have hc := show classI 42 = 2 from rfl
  have BR := hide (Box.new w 47 #[.int .u16 0, .int .u16 0, .int .u16 0, .int .u16 0, .int .i64 0, .slice none 0 0])
  have L0 := hide ((Later.refl w).alloc (.cells #[.int .u16 0, .int .u16 0, .int .u16 0, .int .u16 0, .int .i64 0, .slice none 0 0] 47))
  go_enter Try.func20, Try.ntmps20
  go_wp2_with
    (first | (go_at_call 32; refine (some_c _ _ _ _).mono ?_; rintro e w' ⟨rfl, hw⟩; have hw2 := hw.symm; subst hw2) | (go_at_call 31; refine (whole_c _ _ _ (by decide) (by decide)).mono ?_; rintro e w' ⟨rfl, hw⟩; have hw2 := hw.symm; subst hw2) | (go_at_call 14; refine (class_c _ _).mono ?_; rintro e w' ⟨rfl, hw⟩; have hw2 := hw.symm; subst hw2))
  refine (bform_42 _).mono ?_
  rintro e w1 ⟨v, rfl, hl, s, rfl, hr⟩
  have hs : Hid (s.oneCell' = true) := by obtain ⟨_, _, a, c, rfl, _⟩ := hr; rfl
  replace BR := hide (BR.out.later hl)
  replace L0 := hide (L0.out.trans hl)
  have HR := hide hr
  clear hl hr
  go_wp2_with (refine wpList_storeU rfl 47 (.tmp 2) (.tmp 8) rfl w.heap.size 0 rfl (fc (formN 42) s) rfl Try.info_form (fc_one _ s hs.out) _ _ BR.out (by simp) ?_)
  intro w2 hw2
  have BS : Hid (Box w2 w.heap.size 47 (fc (formN 42) s)) := by rw [hw2.out]; exact BR.out.all _ rfl
  have LS : Hid (Later w w2) := by rw [hw2.out]; exact L0.out.setCells (Nat.le_refl _) _ _
  have RS : Hid (Rw 3 w2 s ((formN 42)).2.2.2.2.2.length (rv ((formN 42)).2.2.2.2.2)) := by
    rw [hw2.out]
    exact rw_off6 HR.out BR.out (by simp) _ _
  clear hw2
  go_wp2
  refine bodyPost_ret (results_cell_tmp rfl _ _ _ w.heap.size 0 rfl _ (.bool (knownB 42)) (load_form (f := (formN 42)) (s := s) BS.out (by rfl)) (by rfl)) rfl ⟨_, rfl, LS.out, s, rfl, RS.out⟩
set_option maxHeartbeats 1000000 in
theorem form_136 : IForm 136 := by
  intro w
  have hc := show classI 136 = 1 from rfl
  have BR := hide (Box.new w 47 #[.int .u16 0, .int .u16 0, .int .u16 0, .int .u16 0, .int .i64 0, .slice none 0 0])
  have L0 := hide ((Later.refl w).alloc (.cells #[.int .u16 0, .int .u16 0, .int .u16 0, .int .u16 0, .int .i64 0, .slice none 0 0] 47))
  go_enter Try.func20, Try.ntmps20
  go_wp2_with
    (first | (go_at_call 32; refine (some_c _ _ _ _).mono ?_; rintro e w' ⟨rfl, hw⟩; have hw2 := hw.symm; subst hw2) | (go_at_call 31; refine (whole_c _ _ _ (by decide) (by decide)).mono ?_; rintro e w' ⟨rfl, hw⟩; have hw2 := hw.symm; subst hw2) | (go_at_call 14; refine (class_c _ _).mono ?_; rintro e w' ⟨rfl, hw⟩; have hw2 := hw.symm; subst hw2))
  refine (bform_136 _).mono ?_
  rintro e w1 ⟨v, rfl, hl, s, rfl, hr⟩
  have hs : Hid (s.oneCell' = true) := by obtain ⟨_, _, a, c, rfl, _⟩ := hr; rfl
  replace BR := hide (BR.out.later hl)
  replace L0 := hide (L0.out.trans hl)
  have HR := hide hr
  clear hl hr
  go_wp2_with (refine wpList_storeU rfl 47 (.tmp 2) (.tmp 8) rfl w.heap.size 0 rfl (fc (formN 136) s) rfl Try.info_form (fc_one _ s hs.out) _ _ BR.out (by simp) ?_)
  intro w2 hw2
  have BS : Hid (Box w2 w.heap.size 47 (fc (formN 136) s)) := by rw [hw2.out]; exact BR.out.all _ rfl
  have LS : Hid (Later w w2) := by rw [hw2.out]; exact L0.out.setCells (Nat.le_refl _) _ _
  have RS : Hid (Rw 3 w2 s ((formN 136)).2.2.2.2.2.length (rv ((formN 136)).2.2.2.2.2)) := by
    rw [hw2.out]
    exact rw_off6 HR.out BR.out (by simp) _ _
  clear hw2
  go_wp2
  refine bodyPost_ret (results_cell_tmp rfl _ _ _ w.heap.size 0 rfl _ (.bool (knownB 136)) (load_form (f := (formN 136)) (s := s) BS.out (by rfl)) (by rfl)) rfl ⟨_, rfl, LS.out, s, rfl, RS.out⟩
set_option maxHeartbeats 1000000 in
theorem form_138 : IForm 138 := by
  intro w
  have hc := show classI 138 = 2 from rfl
  have BR := hide (Box.new w 47 #[.int .u16 0, .int .u16 0, .int .u16 0, .int .u16 0, .int .i64 0, .slice none 0 0])
  have L0 := hide ((Later.refl w).alloc (.cells #[.int .u16 0, .int .u16 0, .int .u16 0, .int .u16 0, .int .i64 0, .slice none 0 0] 47))
  go_enter Try.func20, Try.ntmps20
  go_wp2_with
    (first | (go_at_call 32; refine (some_c _ _ _ _).mono ?_; rintro e w' ⟨rfl, hw⟩; have hw2 := hw.symm; subst hw2) | (go_at_call 31; refine (whole_c _ _ _ (by decide) (by decide)).mono ?_; rintro e w' ⟨rfl, hw⟩; have hw2 := hw.symm; subst hw2) | (go_at_call 14; refine (class_c _ _).mono ?_; rintro e w' ⟨rfl, hw⟩; have hw2 := hw.symm; subst hw2))
  refine (bform_138 _).mono ?_
  rintro e w1 ⟨v, rfl, hl, s, rfl, hr⟩
  have hs : Hid (s.oneCell' = true) := by obtain ⟨_, _, a, c, rfl, _⟩ := hr; rfl
  replace BR := hide (BR.out.later hl)
  replace L0 := hide (L0.out.trans hl)
  have HR := hide hr
  clear hl hr
  go_wp2_with (refine wpList_storeU rfl 47 (.tmp 2) (.tmp 8) rfl w.heap.size 0 rfl (fc (formN 138) s) rfl Try.info_form (fc_one _ s hs.out) _ _ BR.out (by simp) ?_)
  intro w2 hw2
  have BS : Hid (Box w2 w.heap.size 47 (fc (formN 138) s)) := by rw [hw2.out]; exact BR.out.all _ rfl
  have LS : Hid (Later w w2) := by rw [hw2.out]; exact L0.out.setCells (Nat.le_refl _) _ _
  have RS : Hid (Rw 3 w2 s ((formN 138)).2.2.2.2.2.length (rv ((formN 138)).2.2.2.2.2)) := by
    rw [hw2.out]
    exact rw_off6 HR.out BR.out (by simp) _ _
  clear hw2
  go_wp2
  refine bodyPost_ret (results_cell_tmp rfl _ _ _ w.heap.size 0 rfl _ (.bool (knownB 138)) (load_form (f := (formN 138)) (s := s) BS.out (by rfl)) (by rfl)) rfl ⟨_, rfl, LS.out, s, rfl, RS.out⟩
set_option maxHeartbeats 1000000 in
theorem form_168 : IForm 168 := by
  intro w
  have hc := show classI 168 = 1 from rfl
  have BR := hide (Box.new w 47 #[.int .u16 0, .int .u16 0, .int .u16 0, .int .u16 0, .int .i64 0, .slice none 0 0])
  have L0 := hide ((Later.refl w).alloc (.cells #[.int .u16 0, .int .u16 0, .int .u16 0, .int .u16 0, .int .i64 0, .slice none 0 0] 47))
  go_enter Try.func20, Try.ntmps20
  go_wp2_with
    (first | (go_at_call 32; refine (some_c _ _ _ _).mono ?_; rintro e w' ⟨rfl, hw⟩; have hw2 := hw.symm; subst hw2) | (go_at_call 31; refine (whole_c _ _ _ (by decide) (by decide)).mono ?_; rintro e w' ⟨rfl, hw⟩; have hw2 := hw.symm; subst hw2) | (go_at_call 14; refine (class_c _ _).mono ?_; rintro e w' ⟨rfl, hw⟩; have hw2 := hw.symm; subst hw2))
  refine (bform_168 _).mono ?_
  rintro e w1 ⟨v, rfl, hl, s, rfl, hr⟩
  have hs : Hid (s.oneCell' = true) := by obtain ⟨_, _, a, c, rfl, _⟩ := hr; rfl
  replace BR := hide (BR.out.later hl)
  replace L0 := hide (L0.out.trans hl)
  have HR := hide hr
  clear hl hr
  go_wp2_with (refine wpList_storeU rfl 47 (.tmp 2) (.tmp 8) rfl w.heap.size 0 rfl (fc (formN 168) s) rfl Try.info_form (fc_one _ s hs.out) _ _ BR.out (by simp) ?_)
  intro w2 hw2
  have BS : Hid (Box w2 w.heap.size 47 (fc (formN 168) s)) := by rw [hw2.out]; exact BR.out.all _ rfl
  have LS : Hid (Later w w2) := by rw [hw2.out]; exact L0.out.setCells (Nat.le_refl _) _ _
  have RS : Hid (Rw 3 w2 s ((formN 168)).2.2.2.2.2.length (rv ((formN 168)).2.2.2.2.2)) := by
    rw [hw2.out]
    exact rw_off6 HR.out BR.out (by simp) _ _
  clear hw2
  go_wp2
  refine bodyPost_ret (results_cell_tmp rfl _ _ _ w.heap.size 0 rfl _ (.bool (knownB 168)) (load_form (f := (formN 168)) (s := s) BS.out (by rfl)) (by rfl)) rfl ⟨_, rfl, LS.out, s, rfl, RS.out⟩
set_option maxHeartbeats 1000000 in
theorem form_170 : IForm 170 := by
  intro w
  have hc := show classI 170 = 2 from rfl
  have BR := hide (Box.new w 47 #[.int .u16 0, .int .u16 0, .int .u16 0, .int .u16 0, .int .i64 0, .slice none 0 0])
  have L0 := hide ((Later.refl w).alloc (.cells #[.int .u16 0, .int .u16 0, .int .u16 0, .int .u16 0, .int .i64 0, .slice none 0 0] 47))
  go_enter Try.func20, Try.ntmps20
  go_wp2_with
    (first | (go_at_call 32; refine (some_c _ _ _ _).mono ?_; rintro e w' ⟨rfl, hw⟩; have hw2 := hw.symm; subst hw2) | (go_at_call 31; refine (whole_c _ _ _ (by decide) (by decide)).mono ?_; rintro e w' ⟨rfl, hw⟩; have hw2 := hw.symm; subst hw2) | (go_at_call 14; refine (class_c _ _).mono ?_; rintro e w' ⟨rfl, hw⟩; have hw2 := hw.symm; subst hw2))
  refine (bform_170 _).mono ?_
  rintro e w1 ⟨v, rfl, hl, s, rfl, hr⟩
  have hs : Hid (s.oneCell' = true) := by obtain ⟨_, _, a, c, rfl, _⟩ := hr; rfl
  replace BR := hide (BR.out.later hl)
  replace L0 := hide (L0.out.trans hl)
  have HR := hide hr
  clear hl hr
  go_wp2_with (refine wpList_storeU rfl 47 (.tmp 2) (.tmp 8) rfl w.heap.size 0 rfl (fc (formN 170) s) rfl Try.info_form (fc_one _ s hs.out) _ _ BR.out (by simp) ?_)
  intro w2 hw2
  have BS : Hid (Box w2 w.heap.size 47 (fc (formN 170) s)) := by rw [hw2.out]; exact BR.out.all _ rfl
  have LS : Hid (Later w w2) := by rw [hw2.out]; exact L0.out.setCells (Nat.le_refl _) _ _
  have RS : Hid (Rw 3 w2 s ((formN 170)).2.2.2.2.2.length (rv ((formN 170)).2.2.2.2.2)) := by
    rw [hw2.out]
    exact rw_off6 HR.out BR.out (by simp) _ _
  clear hw2
  go_wp2
  refine bodyPost_ret (results_cell_tmp rfl _ _ _ w.heap.size 0 rfl _ (.bool (knownB 170)) (load_form (f := (formN 170)) (s := s) BS.out (by rfl)) (by rfl)) rfl ⟨_, rfl, LS.out, s, rfl, RS.out⟩
set_option maxHeartbeats 1000000 in
theorem form_47 : IForm 47 := by
  intro w
  have hc := show classI 47 = 3 from rfl
  have BR := hide (Box.new w 47 #[.int .u16 0, .int .u16 0, .int .u16 0, .int .u16 0, .int .i64 0, .slice none 0 0])
  have L0 := hide ((Later.refl w).alloc (.cells #[.int .u16 0, .int .u16 0, .int .u16 0, .int .u16 0, .int .i64 0, .slice none 0 0] 47))
  go_enter Try.func20, Try.ntmps20
  go_wp2_with
    (first | (go_at_call 32; refine (some_c _ _ _ _).mono ?_; rintro e w' ⟨rfl, hw⟩; have hw2 := hw.symm; subst hw2) | (go_at_call 31; refine (whole_c _ _ _ (by decide) (by decide)).mono ?_; rintro e w' ⟨rfl, hw⟩; have hw2 := hw.symm; subst hw2) | (go_at_call 14; refine (class_c _ _).mono ?_; rintro e w' ⟨rfl, hw⟩; have hw2 := hw.symm; subst hw2))
  refine (bform_47 _).mono ?_
  rintro e w1 ⟨v, rfl, hl, s, rfl, hr⟩
  have hs : Hid (s.oneCell' = true) := by obtain ⟨_, _, a, c, rfl, _⟩ := hr; rfl
  replace BR := hide (BR.out.later hl)
  replace L0 := hide (L0.out.trans hl)
  have HR := hide hr
  clear hl hr
  go_wp2_with (refine wpList_storeU rfl 47 (.tmp 2) (.tmp 8) rfl w.heap.size 0 rfl (fc (formN 47) s) rfl Try.info_form (fc_one _ s hs.out) _ _ BR.out (by simp) ?_)
  intro w2 hw2
  have BS : Hid (Box w2 w.heap.size 47 (fc (formN 47) s)) := by rw [hw2.out]; exact BR.out.all _ rfl
  have LS : Hid (Later w w2) := by rw [hw2.out]; exact L0.out.setCells (Nat.le_refl _) _ _
  have RS : Hid (Rw 3 w2 s ((formN 47)).2.2.2.2.2.length (rv ((formN 47)).2.2.2.2.2)) := by
    rw [hw2.out]
    exact rw_off6 HR.out BR.out (by simp) _ _
  clear hw2
  go_wp2
  refine bodyPost_ret (results_cell_tmp rfl _ _ _ w.heap.size 0 rfl _ (.bool (knownB 47)) (load_form (f := (formN 47)) (s := s) BS.out (by rfl)) (by rfl)) rfl ⟨_, rfl, LS.out, s, rfl, RS.out⟩
set_option maxHeartbeats 1000000 in
theorem form_143 : IForm 143 := by
  intro w
  have hc := show classI 143 = 3 from rfl
  have BR := hide (Box.new w 47 #[.int .u16 0, .int .u16 0, .int .u16 0, .int .u16 0, .int .i64 0, .slice none 0 0])
  have L0 := hide ((Later.refl w).alloc (.cells #[.int .u16 0, .int .u16 0, .int .u16 0, .int .u16 0, .int .i64 0, .slice none 0 0] 47))
  go_enter Try.func20, Try.ntmps20
  go_wp2_with
    (first | (go_at_call 32; refine (some_c _ _ _ _).mono ?_; rintro e w' ⟨rfl, hw⟩; have hw2 := hw.symm; subst hw2) | (go_at_call 31; refine (whole_c _ _ _ (by decide) (by decide)).mono ?_; rintro e w' ⟨rfl, hw⟩; have hw2 := hw.symm; subst hw2) | (go_at_call 14; refine (class_c _ _).mono ?_; rintro e w' ⟨rfl, hw⟩; have hw2 := hw.symm; subst hw2))
  refine (bform_143 _).mono ?_
  rintro e w1 ⟨v, rfl, hl, s, rfl, hr⟩
  have hs : Hid (s.oneCell' = true) := by obtain ⟨_, _, a, c, rfl, _⟩ := hr; rfl
  replace BR := hide (BR.out.later hl)
  replace L0 := hide (L0.out.trans hl)
  have HR := hide hr
  clear hl hr
  go_wp2_with (refine wpList_storeU rfl 47 (.tmp 2) (.tmp 8) rfl w.heap.size 0 rfl (fc (formN 143) s) rfl Try.info_form (fc_one _ s hs.out) _ _ BR.out (by simp) ?_)
  intro w2 hw2
  have BS : Hid (Box w2 w.heap.size 47 (fc (formN 143) s)) := by rw [hw2.out]; exact BR.out.all _ rfl
  have LS : Hid (Later w w2) := by rw [hw2.out]; exact L0.out.setCells (Nat.le_refl _) _ _
  have RS : Hid (Rw 3 w2 s ((formN 143)).2.2.2.2.2.length (rv ((formN 143)).2.2.2.2.2)) := by
    rw [hw2.out]
    exact rw_off6 HR.out BR.out (by simp) _ _
  clear hw2
  go_wp2
  refine bodyPost_ret (results_cell_tmp rfl _ _ _ w.heap.size 0 rfl _ (.bool (knownB 143)) (load_form (f := (formN 143)) (s := s) BS.out (by rfl)) (by rfl)) rfl ⟨_, rfl, LS.out, s, rfl, RS.out⟩
set_option maxHeartbeats 1000000 in
theorem form_175 : IForm 175 := by
  intro w
  have hc := show classI 175 = 3 from rfl
  have BR := hide (Box.new w 47 #[.int .u16 0, .int .u16 0, .int .u16 0, .int .u16 0, .int .i64 0, .slice none 0 0])
  have L0 := hide ((Later.refl w).alloc (.cells #[.int .u16 0, .int .u16 0, .int .u16 0, .int .u16 0, .int .i64 0, .slice none 0 0] 47))
  go_enter Try.func20, Try.ntmps20
  go_wp2_with
    (first | (go_at_call 32; refine (some_c _ _ _ _).mono ?_; rintro e w' ⟨rfl, hw⟩; have hw2 := hw.symm; subst hw2) | (go_at_call 31; refine (whole_c _ _ _ (by decide) (by decide)).mono ?_; rintro e w' ⟨rfl, hw⟩; have hw2 := hw.symm; subst hw2) | (go_at_call 14; refine (class_c _ _).mono ?_; rintro e w' ⟨rfl, hw⟩; have hw2 := hw.symm; subst hw2))
  refine (bform_175 _).mono ?_
  rintro e w1 ⟨v, rfl, hl, s, rfl, hr⟩
  have hs : Hid (s.oneCell' = true) := by obtain ⟨_, _, a, c, rfl, _⟩ := hr; rfl
  replace BR := hide (BR.out.later hl)
  replace L0 := hide (L0.out.trans hl)
  have HR := hide hr
  clear hl hr
  go_wp2_with (refine wpList_storeU rfl 47 (.tmp 2) (.tmp 8) rfl w.heap.size 0 rfl (fc (formN 175) s) rfl Try.info_form (fc_one _ s hs.out) _ _ BR.out (by simp) ?_)
  intro w2 hw2
  have BS : Hid (Box w2 w.heap.size 47 (fc (formN 175) s)) := by rw [hw2.out]; exact BR.out.all _ rfl
  have LS : Hid (Later w w2) := by rw [hw2.out]; exact L0.out.setCells (Nat.le_refl _) _ _
  have RS : Hid (Rw 3 w2 s ((formN 175)).2.2.2.2.2.length (rv ((formN 175)).2.2.2.2.2)) := by
    rw [hw2.out]
    exact rw_off6 HR.out BR.out (by simp) _ _
  clear hw2
  go_wp2
  refine bodyPost_ret (results_cell_tmp rfl _ _ _ w.heap.size 0 rfl _ (.bool (knownB 175)) (load_form (f := (formN 175)) (s := s) BS.out (by rfl)) (by rfl)) rfl ⟨_, rfl, LS.out, s, rfl, RS.out⟩
set_option maxHeartbeats 1000000 in
theorem form_53 : IForm 53 := by
  intro w
  have hc := show classI 53 = 4 from rfl
  have BR := hide (Box.new w 47 #[.int .u16 0, .int .u16 0, .int .u16 0, .int .u16 0, .int .i64 0, .slice none 0 0])
  have L0 := hide ((Later.refl w).alloc (.cells #[.int .u16 0, .int .u16 0, .int .u16 0, .int .u16 0, .int .i64 0, .slice none 0 0] 47))
  go_enter Try.func20, Try.ntmps20
  go_wp2_with
    (first | (go_at_call 32; refine (some_c _ _ _ _).mono ?_; rintro e w' ⟨rfl, hw⟩; have hw2 := hw.symm; subst hw2) | (go_at_call 31; refine (whole_c _ _ _ (by decide) (by decide)).mono ?_; rintro e w' ⟨rfl, hw⟩; have hw2 := hw.symm; subst hw2) | (go_at_call 14; refine (class_c _ _).mono ?_; rintro e w' ⟨rfl, hw⟩; have hw2 := hw.symm; subst hw2))
  refine (bform_53 _).mono ?_
  rintro e w1 ⟨v, rfl, hl, s, rfl, hr⟩
  have hs : Hid (s.oneCell' = true) := by obtain ⟨_, _, a, c, rfl, _⟩ := hr; rfl
  replace BR := hide (BR.out.later hl)
  replace L0 := hide (L0.out.trans hl)
  have HR := hide hr
  clear hl hr
  go_wp2_with (refine wpList_storeU rfl 47 (.tmp 2) (.tmp 8) rfl w.heap.size 0 rfl (fc (formN 53) s) rfl Try.info_form (fc_one _ s hs.out) _ _ BR.out (by simp) ?_)
  intro w2 hw2
  have BS : Hid (Box w2 w.heap.size 47 (fc (formN 53) s)) := by rw [hw2.out]; exact BR.out.all _ rfl
  have LS : Hid (Later w w2) := by rw [hw2.out]; exact L0.out.setCells (Nat.le_refl _) _ _
  have RS : Hid (Rw 3 w2 s ((formN 53)).2.2.2.2.2.length (rv ((formN 53)).2.2.2.2.2)) := by
    rw [hw2.out]
    exact rw_off6 HR.out BR.out (by simp) _ _
  clear hw2
  go_wp2
  refine bodyPost_ret (results_cell_tmp rfl _ _ _ w.heap.size 0 rfl _ (.bool (knownB 53)) (load_form (f := (formN 53)) (s := s) BS.out (by rfl)) (by rfl)) rfl ⟨_, rfl, LS.out, s, rfl, RS.out⟩
set_option maxHeartbeats 1000000 in
theorem form_145 : IForm 145 := by
  intro w
  have hc := show classI 145 = 4 from rfl
  have BR := hide (Box.new w 47 #[.int .u16 0, .int .u16 0, .int .u16 0, .int .u16 0, .int .i64 0, .slice none 0 0])
  have L0 := hide ((Later.refl w).alloc (.cells #[.int .u16 0, .int .u16 0, .int .u16 0, .int .u16 0, .int .i64 0, .slice none 0 0] 47))
  go_enter Try.func20, Try.ntmps20
  go_wp2_with
    (first | (go_at_call 32; refine (some_c _ _ _ _).mono ?_; rintro e w' ⟨rfl, hw⟩; have hw2 := hw.symm; subst hw2) | (go_at_call 31; refine (whole_c _ _ _ (by decide) (by decide)).mono ?_; rintro e w' ⟨rfl, hw⟩; have hw2 := hw.symm; subst hw2) | (go_at_call 14; refine (class_c _ _).mono ?_; rintro e w' ⟨rfl, hw⟩; have hw2 := hw.symm; subst hw2))
  refine (bform_145 _).mono ?_
  rintro e w1 ⟨v, rfl, hl, s, rfl, hr⟩
  have hs : Hid (s.oneCell' = true) := by obtain ⟨_, _, a, c, rfl, _⟩ := hr; rfl
  replace BR := hide (BR.out.later hl)
  replace L0 := hide (L0.out.trans hl)
  have HR := hide hr
  clear hl hr
  go_wp2_with (refine wpList_storeU rfl 47 (.tmp 2) (.tmp 8) rfl w.heap.size 0 rfl (fc (formN 145) s) rfl Try.info_form (fc_one _ s hs.out) _ _ BR.out (by simp) ?_)
  intro w2 hw2
  have BS : Hid (Box w2 w.heap.size 47 (fc (formN 145) s)) := by rw [hw2.out]; exact BR.out.all _ rfl
  have LS : Hid (Later w w2) := by rw [hw2.out]; exact L0.out.setCells (Nat.le_refl _) _ _
  have RS : Hid (Rw 3 w2 s ((formN 145)).2.2.2.2.2.length (rv ((formN 145)).2.2.2.2.2)) := by
    rw [hw2.out]
    exact rw_off6 HR.out BR.out (by simp) _ _
  clear hw2
  go_wp2
  refine bodyPost_ret (results_cell_tmp rfl _ _ _ w.heap.size 0 rfl _ (.bool (knownB 145)) (load_form (f := (formN 145)) (s := s) BS.out (by rfl)) (by rfl)) rfl ⟨_, rfl, LS.out, s, rfl, RS.out⟩
set_option maxHeartbeats 1000000 in
theorem form_21 : IForm 21 := by
  intro w
  have hc := show classI 21 = 0 from rfl
  have BR := hide (Box.new w 47 #[.int .u16 0, .int .u16 0, .int .u16 0, .int .u16 0, .int .i64 0, .slice none 0 0])
  have L0 := hide ((Later.refl w).alloc (.cells #[.int .u16 0, .int .u16 0, .int .u16 0, .int .u16 0, .int .i64 0, .slice none 0 0] 47))
  go_enter Try.func20, Try.ntmps20
  go_wp2_with
    (first | (go_at_call 32; refine (some_c _ _ _ _).mono ?_; rintro e w' ⟨rfl, hw⟩; have hw2 := hw.symm; subst hw2) | (go_at_call 31; refine (whole_c _ _ _ (by decide) (by decide)).mono ?_; rintro e w' ⟨rfl, hw⟩; have hw2 := hw.symm; subst hw2) | (go_at_call 14; refine (class_c _ _).mono ?_; rintro e w' ⟨rfl, hw⟩; have hw2 := hw.symm; subst hw2))
  refine (fselect_c 1028 _).mono ?_
  rintro e w1 ⟨v, rfl, hl, s, rfl, hr⟩
  have hs : Hid (s.oneCell' = true) := by obtain ⟨_, _, a, c, rfl, _⟩ := hr; rfl
  replace BR := hide (BR.out.later hl)
  replace L0 := hide (L0.out.trans hl)
  have HR := hide hr
  clear hl hr
  go_wp2_with (refine wpList_storeU rfl 47 (.tmp 2) (.tmp 30) rfl w.heap.size 0 rfl (fc (formN 21) s) rfl Try.info_form (fc_one _ s hs.out) _ _ BR.out (by simp) ?_)
  intro w2 hw2
  have BS : Hid (Box w2 w.heap.size 47 (fc (formN 21) s)) := by rw [hw2.out]; exact BR.out.all _ rfl
  have LS : Hid (Later w w2) := by rw [hw2.out]; exact L0.out.setCells (Nat.le_refl _) _ _
  have RS : Hid (Rw 3 w2 s ((formN 21)).2.2.2.2.2.length (rv ((formN 21)).2.2.2.2.2)) := by
    rw [hw2.out]
    exact rw_off6 HR.out BR.out (by simp) _ _
  clear hw2
  go_wp2
  refine bodyPost_ret (results_cell_tmp rfl _ _ _ w.heap.size 0 rfl _ (.bool (knownB 21)) (load_form (f := (formN 21)) (s := s) BS.out (by rfl)) (by rfl)) rfl ⟨_, rfl, LS.out, s, rfl, RS.out⟩
set_option maxHeartbeats 1000000 in
theorem form_85 : IForm 85 := by
  intro w
  have hc := show classI 85 = 0 from rfl
  have BR := hide (Box.new w 47 #[.int .u16 0, .int .u16 0, .int .u16 0, .int .u16 0, .int .i64 0, .slice none 0 0])
  have L0 := hide ((Later.refl w).alloc (.cells #[.int .u16 0, .int .u16 0, .int .u16 0, .int .u16 0, .int .i64 0, .slice none 0 0] 47))
  go_enter Try.func20, Try.ntmps20
  go_wp2_with
    (first | (go_at_call 32; refine (some_c _ _ _ _).mono ?_; rintro e w' ⟨rfl, hw⟩; have hw2 := hw.symm; subst hw2) | (go_at_call 31; refine (whole_c _ _ _ (by decide) (by decide)).mono ?_; rintro e w' ⟨rfl, hw⟩; have hw2 := hw.symm; subst hw2) | (go_at_call 14; refine (class_c _ _).mono ?_; rintro e w' ⟨rfl, hw⟩; have hw2 := hw.symm; subst hw2))
  refine (fselect_c 2056 _).mono ?_
  rintro e w1 ⟨v, rfl, hl, s, rfl, hr⟩
  have hs : Hid (s.oneCell' = true) := by obtain ⟨_, _, a, c, rfl, _⟩ := hr; rfl
  replace BR := hide (BR.out.later hl)
  replace L0 := hide (L0.out.trans hl)
  have HR := hide hr
  clear hl hr
  go_wp2_with (refine wpList_storeU rfl 47 (.tmp 2) (.tmp 34) rfl w.heap.size 0 rfl (fc (formN 85) s) rfl Try.info_form (fc_one _ s hs.out) _ _ BR.out (by simp) ?_)
  intro w2 hw2
  have BS : Hid (Box w2 w.heap.size 47 (fc (formN 85) s)) := by rw [hw2.out]; exact BR.out.all _ rfl
  have LS : Hid (Later w w2) := by rw [hw2.out]; exact L0.out.setCells (Nat.le_refl _) _ _
  have RS : Hid (Rw 3 w2 s ((formN 85)).2.2.2.2.2.length (rv ((formN 85)).2.2.2.2.2)) := by
    rw [hw2.out]
    exact rw_off6 HR.out BR.out (by simp) _ _
  clear hw2
  go_wp2
  refine bodyPost_ret (results_cell_tmp rfl _ _ _ w.heap.size 0 rfl _ (.bool (knownB 85)) (load_form (f := (formN 85)) (s := s) BS.out (by rfl)) (by rfl)) rfl ⟨_, rfl, LS.out, s, rfl, RS.out⟩
set_option maxHeartbeats 1000000 in
theorem form_26 : IForm 26 := by
  intro w
  have hc := show classI 26 = 0 from rfl
  have BR := hide (Box.new w 47 #[.int .u16 0, .int .u16 0, .int .u16 0, .int .u16 0, .int .i64 0, .slice none 0 0])
  have L0 := hide ((Later.refl w).alloc (.cells #[.int .u16 0, .int .u16 0, .int .u16 0, .int .u16 0, .int .i64 0, .slice none 0 0] 47))
  go_enter Try.func20, Try.ntmps20
  go_wp2_with
    (first | (go_at_call 32; refine (some_c _ _ _ _).mono ?_; rintro e w' ⟨rfl, hw⟩; have hw2 := hw.symm; subst hw2) | (go_at_call 31; refine (whole_c _ _ _ (by decide) (by decide)).mono ?_; rintro e w' ⟨rfl, hw⟩; have hw2 := hw.symm; subst hw2) | (go_at_call 14; refine (class_c _ _).mono ?_; rintro e w' ⟨rfl, hw⟩; have hw2 := hw.symm; subst hw2))
  refine (fsense_c 1028 _).mono ?_
  rintro e w1 ⟨v, rfl, hl, s, rfl, hr⟩
  have hs : Hid (s.oneCell' = true) := by obtain ⟨_, _, a, c, rfl, _⟩ := hr; rfl
  replace BR := hide (BR.out.later hl)
  replace L0 := hide (L0.out.trans hl)
  have HR := hide hr
  clear hl hr
  go_wp2_with (refine wpList_storeU rfl 47 (.tmp 2) (.tmp 38) rfl w.heap.size 0 rfl (fc (formN 26) s) rfl Try.info_form (fc_one _ s hs.out) _ _ BR.out (by simp) ?_)
  intro w2 hw2
  have BS : Hid (Box w2 w.heap.size 47 (fc (formN 26) s)) := by rw [hw2.out]; exact BR.out.all _ rfl
  have LS : Hid (Later w w2) := by rw [hw2.out]; exact L0.out.setCells (Nat.le_refl _) _ _
  have RS : Hid (Rw 3 w2 s ((formN 26)).2.2.2.2.2.length (rv ((formN 26)).2.2.2.2.2)) := by
    rw [hw2.out]
    exact rw_off6 HR.out BR.out (by simp) _ _
  clear hw2
  go_wp2
  refine bodyPost_ret (results_cell_tmp rfl _ _ _ w.heap.size 0 rfl _ (.bool (knownB 26)) (load_form (f := (formN 26)) (s := s) BS.out (by rfl)) (by rfl)) rfl ⟨_, rfl, LS.out, s, rfl, RS.out⟩
set_option maxHeartbeats 1000000 in
theorem form_90 : IForm 90 := by
  intro w
  have hc := show classI 90 = 0 from rfl
  have BR := hide (Box.new w 47 #[.int .u16 0, .int .u16 0, .int .u16 0, .int .u16 0, .int .i64 0, .slice none 0 0])
  have L0 := hide ((Later.refl w).alloc (.cells #[.int .u16 0, .int .u16 0, .int .u16 0, .int .u16 0, .int .i64 0, .slice none 0 0] 47))
  go_enter Try.func20, Try.ntmps20
  go_wp2_with
    (first | (go_at_call 32; refine (some_c _ _ _ _).mono ?_; rintro e w' ⟨rfl, hw⟩; have hw2 := hw.symm; subst hw2) | (go_at_call 31; refine (whole_c _ _ _ (by decide) (by decide)).mono ?_; rintro e w' ⟨rfl, hw⟩; have hw2 := hw.symm; subst hw2) | (go_at_call 14; refine (class_c _ _).mono ?_; rintro e w' ⟨rfl, hw⟩; have hw2 := hw.symm; subst hw2))
  refine (fsense_c 2056 _).mono ?_
  rintro e w1 ⟨v, rfl, hl, s, rfl, hr⟩
  have hs : Hid (s.oneCell' = true) := by obtain ⟨_, _, a, c, rfl, _⟩ := hr; rfl
  replace BR := hide (BR.out.later hl)
  replace L0 := hide (L0.out.trans hl)
  have HR := hide hr
  clear hl hr
  go_wp2_with (refine wpList_storeU rfl 47 (.tmp 2) (.tmp 42) rfl w.heap.size 0 rfl (fc (formN 90) s) rfl Try.info_form (fc_one _ s hs.out) _ _ BR.out (by simp) ?_)
  intro w2 hw2
  have BS : Hid (Box w2 w.heap.size 47 (fc (formN 90) s)) := by rw [hw2.out]; exact BR.out.all _ rfl
  have LS : Hid (Later w w2) := by rw [hw2.out]; exact L0.out.setCells (Nat.le_refl _) _ _
  have RS : Hid (Rw 3 w2 s ((formN 90)).2.2.2.2.2.length (rv ((formN 90)).2.2.2.2.2)) := by
    rw [hw2.out]
    exact rw_off6 HR.out BR.out (by simp) _ _
  clear hw2
  go_wp2
  refine bodyPost_ret (results_cell_tmp rfl _ _ _ w.heap.size 0 rfl _ (.bool (knownB 90)) (load_form (f := (formN 90)) (s := s) BS.out (by rfl)) (by rfl)) rfl ⟨_, rfl, LS.out, s, rfl, RS.out⟩
theorem known_cases (op : Int) : (op = 0 ∨ op = 3 ∨ op = 8 ∨ op = 10 ∨ op = 18 ∨ op = 21 ∨ op = 26 ∨ op = 27 ∨ op = 30 ∨ op = 37 ∨ op = 40 ∨ op = 42 ∨ op = 47 ∨ op = 53 ∨ op = 85 ∨ op = 90 ∨ op = 136 ∨ op = 138 ∨ op = 143 ∨ op = 145 ∨ op = 158 ∨ op = 160 ∨ op = 168 ∨ op = 170 ∨ op = 175) ∨ (op ≠ 0 ∧ op ≠ 3 ∧ op ≠ 8 ∧ op ≠ 10 ∧ op ≠ 18 ∧ op ≠ 21 ∧ op ≠ 26 ∧ op ≠ 27 ∧ op ≠ 30 ∧ op ≠ 37 ∧ op ≠ 40 ∧ op ≠ 42 ∧ op ≠ 47 ∧ op ≠ 53 ∧ op ≠ 85 ∧ op ≠ 90 ∧ op ≠ 136 ∧ op ≠ 138 ∧ op ≠ 143 ∧ op ≠ 145 ∧ op ≠ 158 ∧ op ≠ 160 ∧ op ≠ 168 ∧ op ≠ 170 ∧ op ≠ 175) := by omega
theorem known_other {op : Int} (h : op ≠ 0 ∧ op ≠ 3 ∧ op ≠ 8 ∧ op ≠ 10 ∧ op ≠ 18 ∧ op ≠ 21 ∧ op ≠ 26 ∧ op ≠ 27 ∧ op ≠ 30 ∧ op ≠ 37 ∧ op ≠ 40 ∧ op ≠ 42 ∧ op ≠ 47 ∧ op ≠ 53 ∧ op ≠ 85 ∧ op ≠ 90 ∧ op ≠ 136 ∧ op ≠ 138 ∧ op ≠ 143 ∧ op ≠ 145 ∧ op ≠ 158 ∧ op ≠ 160 ∧ op ≠ 168 ∧ op ≠ 170 ∧ op ≠ 175) : knownB op = false ∧ formN op = (0, 0, 0, 0, 0, []) ∧ classI op = 0 := by
  obtain ⟨h0, h3, h8, h10, h18, h21, h26, h27, h30, h37, h40, h42, h47, h53, h85, h90, h136, h138, h143, h145, h158, h160, h168, h170, h175⟩ := h
  simp [knownB, formN, classI, h0, h3, h8, h10, h18, h21, h26, h27, h30, h37, h40, h42, h47, h53, h85, h90, h136, h138, h143, h145, h158, h160, h168, h170, h175]
set_option maxHeartbeats 1000000 in
theorem form_other (op : Int) (h : op ≠ 0 ∧ op ≠ 3 ∧ op ≠ 8 ∧ op ≠ 10 ∧ op ≠ 18 ∧ op ≠ 21 ∧ op ≠ 26 ∧ op ≠ 27 ∧ op ≠ 30 ∧ op ≠ 37 ∧ op ≠ 40 ∧ op ≠ 42 ∧ op ≠ 47 ∧ op ≠ 53 ∧ op ≠ 85 ∧ op ≠ 90 ∧ op ≠ 136 ∧ op ≠ 138 ∧ op ≠ 143 ∧ op ≠ 145 ∧ op ≠ 158 ∧ op ≠ 160 ∧ op ≠ 168 ∧ op ≠ 170 ∧ op ≠ 175) : IForm op := by
  intro w
  have hk := known_other h
  obtain ⟨k1, k2, hc⟩ := hk
  have K1 := hide k1
  have K2 := hide k2
  clear k1 k2
  obtain ⟨h0, h3, h8, h10, h18, h21, h26, h27, h30, h37, h40, h42, h47, h53, h85, h90, h136, h138, h143, h145, h158, h160, h168, h170, h175⟩ := h
  clear h8 h10 h40 h42 h136 h138 h168 h170 h47 h143 h175 h53 h145
  go_enter Try.func20, Try.ntmps20
  go_wp2_with
    (first | (go_at_call 32; refine (some_c _ _ _ _).mono ?_; rintro e w' ⟨rfl, hw⟩; have hw2 := hw.symm; subst hw2) | (go_at_call 31; refine (whole_c _ _ _ (by decide) (by decide)).mono ?_; rintro e w' ⟨rfl, hw⟩; have hw2 := hw.symm; subst hw2) | (go_at_call 14; refine (class_c _ _).mono ?_; rintro e w' ⟨rfl, hw⟩; have hw2 := hw.symm; subst hw2))
  rw [K1.out, K2.out]
  refine bodyPost_ret (results_cell_tmp rfl _ _ _ w.heap.size 0 rfl _ (.bool false) (load_form (f := (0, 0, 0, 0, 0, [])) (s := .slice none 0 0) (Box.new w _ _) (by rfl)) (by rfl)) rfl ⟨_, rfl, ((Later.refl w).alloc _), .slice none 0 0, rfl, rw_none3 _⟩
theorem form_c (op : Int) : IForm op := by
  rcases known_cases op with h | h
  · rcases h with rfl | rfl | rfl | rfl | rfl | rfl | rfl | rfl | rfl | rfl | rfl | rfl | rfl | rfl | rfl | rfl | rfl | rfl | rfl | rfl | rfl | rfl | rfl | rfl | rfl
    · exact form_0
    · exact form_3
    · exact form_8
    · exact form_10
    · exact form_18
    · exact form_21
    · exact form_26
    · exact form_27
    · exact form_30
    · exact form_37
    · exact form_40
    · exact form_42
    · exact form_47
    · exact form_53
    · exact form_85
    · exact form_90
    · exact form_136
    · exact form_138
    · exact form_143
    · exact form_145
    · exact form_158
    · exact form_160
    · exact form_168
    · exact form_170
    · exact form_175
  · exact form_other op h
end Go.Proofs.Ytccdgpadjfjoeaa
