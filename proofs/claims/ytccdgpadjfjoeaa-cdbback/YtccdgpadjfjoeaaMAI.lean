import Derived.Test.YtccdgpadjfjoeaaMAH
namespace Go.Proofs.Ytccdgpadjfjoeaa
open Go.ChangeShapes Go.WideShapes Go.ChangeAt Go.RowKit
set_option linter.unusedVariables false
set_option linter.unusedSimpArgs false

/-! How a command's bytes say it: at, n, page, bits, none, what must be. -/
abbrev Rul := Nat × Nat × Nat
abbrev Frm := Nat × Nat × Nat × Nat × Nat × List Rul
abbrev rc (r : Rul) : List Value := [.int .u16 (r.1 : Int), .int .u64 (r.2.1 : Int), .int .u64 (r.2.2 : Int)]
def rv (L : List Rul) : List Value := L.flatMap rc
abbrev fval (f : Frm) (s : Value) : Value := .agg #[.int .u16 (f.1 : Int), .int .u16 (f.2.1 : Int), .int .u16 (f.2.2.1 : Int), .int .u16 (f.2.2.2.1 : Int), .int .i64 (f.2.2.2.2.1 : Int), s]
def FormV (w : World) (v : Value) (f : Frm) : Prop := ∃ s, v = fval f s ∧ Rw 3 w s f.2.2.2.2.2.length (rv f.2.2.2.2.2)
def knownB (op : Int) : Bool := [0, 3, 8, 10, 18, 21, 26, 27, 30, 37, 40, 42, 47, 53, 85, 90, 136, 138, 143, 145, 158, 160, 168, 170, 175].contains op
def formN (op : Int) : Frm :=
  if op = 8 ∨ op = 10 then (2691, 1028, 0, 0, 256, [])
  else if op = 40 ∨ op = 42 then (4101, 2056, 0, 177, 0, [])
  else if op = 136 ∨ op = 138 then (8201, 4109, 0, 177, 0, [])
  else if op = 168 ∨ op = 170 then (4101, 4105, 0, 177, 0, [])
  else if op = 47 then (4101, 2056, 0, 145, 0, [(161, 0, 0)])
  else if op = 143 then (8201, 4109, 0, 145, 0, [(161, 0, 0)])
  else if op = 175 then (4101, 4105, 0, 145, 0, [(161, 0, 0)])
  else if op = 53 then (4101, 2056, 0, 0, 0, [])
  else if op = 145 then (8201, 4109, 0, 0, 0, [])
  else if op = 3 then (0, 1028, 0, 0, 0, [(129, 0, 0)])
  else if op = 18 then (0, 2052, 1026, 129, 0, [])
  else if op = 21 then (0, 1028, 0, 0, 0, [(193, 1, 1), (129, 0, 0)])
  else if op = 85 then (0, 2056, 0, 0, 0, [(193, 1, 1), (129, 0, 0)])
  else if op = 26 then (0, 1028, 770, 354, 0, [(1027, 0, 0)])
  else if op = 90 then (0, 2056, 770, 354, 0, [(1027, 0, 0)])
  else if op = 27 then (0, 0, 0, 260, 0, [(580, 0, 0)])
  else if op = 30 then (0, 0, 0, 260, 0, [(260, 0, 1)])
  else if op = 37 then (0, 0, 0, 0, 0, [(4101, 0, 0), (136, 0, 0)])
  else if op = 158 then (0, 4109, 0, 0, 0, [(641, 16, 16)])
  else if op = 160 then (0, 4105, 0, 0, 0, [(1026, 0, 2), (4105, 16, 4294967295)])
  else (0, 0, 0, 0, 0, [])
theorem rw_of_box3 {w : World} {g n : Nat} {t : TypeId} {xs : List Value} {L : List Rul} (h : Box w g t xs) (hx : xs = rv L) (hl : L.length = n) (hs : xs.length = n * 3) (hn : n ≤ 1000000) : Rw 3 w (.slice (some ⟨g, 0, none⟩) n n) L.length (rv L) := by
  subst hx hl
  exact ⟨hs, by unfold maxLen; omega, _, L.length, rfl, Nat.le_refl _, .inr ⟨g, 0, rfl, h.range⟩⟩
theorem rw_none3 (w : World) : Rw 3 w (.slice none 0 0) ([] : List Rul).length (rv []) := Rw.nil 3 w


abbrev fc (f : Frm) (s : Value) : List Value := [.int .u16 (f.1 : Int), .int .u16 (f.2.1 : Int), .int .u16 (f.2.2.1 : Int), .int .u16 (f.2.2.2.1 : Int), .int .i64 (f.2.2.2.2.1 : Int), s]
theorem load_form {w : World} {g : Nat} {xs : List Value} {f : Frm} {s : Value} (h : Box w g 47 xs) (hx : xs = fc f s) : (loadVar 47 ⟨g, 0, none⟩).run Try.prog w = .ok (fval f s) w := by
  subst hx
  exact run_loadVar_mid _ _ _ _ (fc f s) _ h.range Try.underlying47 rfl (by kernel_rfl)
/-- a store into a variable: the world behind it stands by itself -/
theorem wpList_storeU {P : Program} {w : World} {ops : Array Oper} {rest : List Oper} {op : Oper} {a : Act} {Q : Exit → Act → World → Prop} (hgd : op.guard = none) (ty : TypeId) (x y : Operand) (ho : op.op = .store ty x y) (g o : Nat) (hx : a.eval x = .pointer (some ⟨g, o, none⟩)) (vs : List Value) (hy : a.eval y = .agg vs.toArray)
    (hi : (P.info? ty).map (·.size) = some vs.length) (h1 : ∀ u ∈ vs, u.oneCell' = true) (t : TypeId) (cs : List Value) (hB : Box w g t cs) (hl : o + vs.length ≤ cs.length)
    (h : ∀ w', Hid (w' = w.setCells g o vs) → wpList P ops Q rest (a.put op.dst undef) w') : wpList P ops Q (op :: rest) a w :=
  wpList_store_mid hgd ty x y ho g o vs.toArray hx hy (by simpa using hB.there o vs.length hl) (by simpa using hi) (all_oneCell_toArray h1) (h _ rfl)
theorem fc_one (f : Frm) (s : Value) (hs : s.oneCell' = true) : ∀ u ∈ fc f s, u.oneCell' = true := by
  intro u hu
  simp [fc] at hu
  rcases hu with rfl | rfl | rfl | rfl | rfl | rfl <;> first | rfl | exact hs
theorem Try.info_form : (Try.prog.info? 47).map (·.size) = some 6 := by kernel_rfl
set_option maxHeartbeats 1000000 in
theorem bform_8 (w : World) : Calls Try.prog 30 #[.int .i64 8] w fun e w' => ∃ v, e = .returned v ∧ Later w w' ∧ FormV w' v (formN 8) := by
  have hc := show classI 8 = 1 from rfl
  go_enter Try.func30, Try.ntmps30
  go_wp2_with
    (first | (go_at_call 32; refine (some_c _ _ _ _).mono ?_; rintro e w' ⟨rfl, hw⟩; have hw2 := hw.symm; subst hw2) | (go_at_call 31; refine (whole_c _ _ _ (by decide) (by decide)).mono ?_; rintro e w' ⟨rfl, hw⟩; have hw2 := hw.symm; subst hw2) | (go_at_call 14; refine (class_c _ _).mono ?_; rintro e w' ⟨rfl, hw⟩; have hw2 := hw.symm; subst hw2))
  refine bodyPost_ret (results_cell1 rfl _ _ _ w.heap.size 0 rfl _ (load_form (f := formN 8) (s := .slice none 0 0) ((Box.new w _ _).alloc _) (by rfl))) rfl ⟨_, rfl, (((Later.refl w).alloc _).alloc _), .slice none 0 0, rfl, (rw_none3 _)⟩
set_option maxHeartbeats 1000000 in
theorem bform_10 (w : World) : Calls Try.prog 30 #[.int .i64 10] w fun e w' => ∃ v, e = .returned v ∧ Later w w' ∧ FormV w' v (formN 10) := by
  have hc := show classI 10 = 2 from rfl
  go_enter Try.func30, Try.ntmps30
  go_wp2_with
    (first | (go_at_call 32; refine (some_c _ _ _ _).mono ?_; rintro e w' ⟨rfl, hw⟩; have hw2 := hw.symm; subst hw2) | (go_at_call 31; refine (whole_c _ _ _ (by decide) (by decide)).mono ?_; rintro e w' ⟨rfl, hw⟩; have hw2 := hw.symm; subst hw2) | (go_at_call 14; refine (class_c _ _).mono ?_; rintro e w' ⟨rfl, hw⟩; have hw2 := hw.symm; subst hw2))
  refine bodyPost_ret (results_cell1 rfl _ _ _ w.heap.size 0 rfl _ (load_form (f := formN 10) (s := .slice none 0 0) ((Box.new w _ _).alloc _) (by rfl))) rfl ⟨_, rfl, (((Later.refl w).alloc _).alloc _), .slice none 0 0, rfl, (rw_none3 _)⟩
set_option maxHeartbeats 1000000 in
theorem bform_40 (w : World) : Calls Try.prog 30 #[.int .i64 40] w fun e w' => ∃ v, e = .returned v ∧ Later w w' ∧ FormV w' v (formN 40) := by
  have hc := show classI 40 = 1 from rfl
  go_enter Try.func30, Try.ntmps30
  go_wp2_with
    (first | (go_at_call 32; refine (some_c _ _ _ _).mono ?_; rintro e w' ⟨rfl, hw⟩; have hw2 := hw.symm; subst hw2) | (go_at_call 31; refine (whole_c _ _ _ (by decide) (by decide)).mono ?_; rintro e w' ⟨rfl, hw⟩; have hw2 := hw.symm; subst hw2) | (go_at_call 14; refine (class_c _ _).mono ?_; rintro e w' ⟨rfl, hw⟩; have hw2 := hw.symm; subst hw2))
  refine bodyPost_ret (results_cell1 rfl _ _ _ w.heap.size 0 rfl _ (load_form (f := formN 40) (s := .slice none 0 0) ((Box.new w _ _).alloc _) (by rfl))) rfl ⟨_, rfl, (((Later.refl w).alloc _).alloc _), .slice none 0 0, rfl, (rw_none3 _)⟩
set_option maxHeartbeats 1000000 in
theorem bform_42 (w : World) : Calls Try.prog 30 #[.int .i64 42] w fun e w' => ∃ v, e = .returned v ∧ Later w w' ∧ FormV w' v (formN 42) := by
  have hc := show classI 42 = 2 from rfl
  go_enter Try.func30, Try.ntmps30
  go_wp2_with
    (first | (go_at_call 32; refine (some_c _ _ _ _).mono ?_; rintro e w' ⟨rfl, hw⟩; have hw2 := hw.symm; subst hw2) | (go_at_call 31; refine (whole_c _ _ _ (by decide) (by decide)).mono ?_; rintro e w' ⟨rfl, hw⟩; have hw2 := hw.symm; subst hw2) | (go_at_call 14; refine (class_c _ _).mono ?_; rintro e w' ⟨rfl, hw⟩; have hw2 := hw.symm; subst hw2))
  refine bodyPost_ret (results_cell1 rfl _ _ _ w.heap.size 0 rfl _ (load_form (f := formN 42) (s := .slice none 0 0) ((Box.new w _ _).alloc _) (by rfl))) rfl ⟨_, rfl, (((Later.refl w).alloc _).alloc _), .slice none 0 0, rfl, (rw_none3 _)⟩
set_option maxHeartbeats 1000000 in
theorem bform_136 (w : World) : Calls Try.prog 30 #[.int .i64 136] w fun e w' => ∃ v, e = .returned v ∧ Later w w' ∧ FormV w' v (formN 136) := by
  have hc := show classI 136 = 1 from rfl
  go_enter Try.func30, Try.ntmps30
  go_wp2_with
    (first | (go_at_call 32; refine (some_c _ _ _ _).mono ?_; rintro e w' ⟨rfl, hw⟩; have hw2 := hw.symm; subst hw2) | (go_at_call 31; refine (whole_c _ _ _ (by decide) (by decide)).mono ?_; rintro e w' ⟨rfl, hw⟩; have hw2 := hw.symm; subst hw2) | (go_at_call 14; refine (class_c _ _).mono ?_; rintro e w' ⟨rfl, hw⟩; have hw2 := hw.symm; subst hw2))
  refine bodyPost_ret (results_cell1 rfl _ _ _ w.heap.size 0 rfl _ (load_form (f := formN 136) (s := .slice none 0 0) ((Box.new w _ _).alloc _) (by rfl))) rfl ⟨_, rfl, (((Later.refl w).alloc _).alloc _), .slice none 0 0, rfl, (rw_none3 _)⟩
set_option maxHeartbeats 1000000 in
theorem bform_138 (w : World) : Calls Try.prog 30 #[.int .i64 138] w fun e w' => ∃ v, e = .returned v ∧ Later w w' ∧ FormV w' v (formN 138) := by
  have hc := show classI 138 = 2 from rfl
  go_enter Try.func30, Try.ntmps30
  go_wp2_with
    (first | (go_at_call 32; refine (some_c _ _ _ _).mono ?_; rintro e w' ⟨rfl, hw⟩; have hw2 := hw.symm; subst hw2) | (go_at_call 31; refine (whole_c _ _ _ (by decide) (by decide)).mono ?_; rintro e w' ⟨rfl, hw⟩; have hw2 := hw.symm; subst hw2) | (go_at_call 14; refine (class_c _ _).mono ?_; rintro e w' ⟨rfl, hw⟩; have hw2 := hw.symm; subst hw2))
  refine bodyPost_ret (results_cell1 rfl _ _ _ w.heap.size 0 rfl _ (load_form (f := formN 138) (s := .slice none 0 0) ((Box.new w _ _).alloc _) (by rfl))) rfl ⟨_, rfl, (((Later.refl w).alloc _).alloc _), .slice none 0 0, rfl, (rw_none3 _)⟩
set_option maxHeartbeats 1000000 in
theorem bform_168 (w : World) : Calls Try.prog 30 #[.int .i64 168] w fun e w' => ∃ v, e = .returned v ∧ Later w w' ∧ FormV w' v (formN 168) := by
  have hc := show classI 168 = 1 from rfl
  go_enter Try.func30, Try.ntmps30
  go_wp2_with
    (first | (go_at_call 32; refine (some_c _ _ _ _).mono ?_; rintro e w' ⟨rfl, hw⟩; have hw2 := hw.symm; subst hw2) | (go_at_call 31; refine (whole_c _ _ _ (by decide) (by decide)).mono ?_; rintro e w' ⟨rfl, hw⟩; have hw2 := hw.symm; subst hw2) | (go_at_call 14; refine (class_c _ _).mono ?_; rintro e w' ⟨rfl, hw⟩; have hw2 := hw.symm; subst hw2))
  refine bodyPost_ret (results_cell1 rfl _ _ _ w.heap.size 0 rfl _ (load_form (f := formN 168) (s := .slice none 0 0) ((Box.new w _ _).alloc _) (by rfl))) rfl ⟨_, rfl, (((Later.refl w).alloc _).alloc _), .slice none 0 0, rfl, (rw_none3 _)⟩
set_option maxHeartbeats 1000000 in
theorem bform_170 (w : World) : Calls Try.prog 30 #[.int .i64 170] w fun e w' => ∃ v, e = .returned v ∧ Later w w' ∧ FormV w' v (formN 170) := by
  have hc := show classI 170 = 2 from rfl
  go_enter Try.func30, Try.ntmps30
  go_wp2_with
    (first | (go_at_call 32; refine (some_c _ _ _ _).mono ?_; rintro e w' ⟨rfl, hw⟩; have hw2 := hw.symm; subst hw2) | (go_at_call 31; refine (whole_c _ _ _ (by decide) (by decide)).mono ?_; rintro e w' ⟨rfl, hw⟩; have hw2 := hw.symm; subst hw2) | (go_at_call 14; refine (class_c _ _).mono ?_; rintro e w' ⟨rfl, hw⟩; have hw2 := hw.symm; subst hw2))
  refine bodyPost_ret (results_cell1 rfl _ _ _ w.heap.size 0 rfl _ (load_form (f := formN 170) (s := .slice none 0 0) ((Box.new w _ _).alloc _) (by rfl))) rfl ⟨_, rfl, (((Later.refl w).alloc _).alloc _), .slice none 0 0, rfl, (rw_none3 _)⟩
set_option maxHeartbeats 1000000 in
theorem bform_53 (w : World) : Calls Try.prog 30 #[.int .i64 53] w fun e w' => ∃ v, e = .returned v ∧ Later w w' ∧ FormV w' v (formN 53) := by
  have hc := show classI 53 = 4 from rfl
  go_enter Try.func30, Try.ntmps30
  go_wp2_with
    (first | (go_at_call 32; refine (some_c _ _ _ _).mono ?_; rintro e w' ⟨rfl, hw⟩; have hw2 := hw.symm; subst hw2) | (go_at_call 31; refine (whole_c _ _ _ (by decide) (by decide)).mono ?_; rintro e w' ⟨rfl, hw⟩; have hw2 := hw.symm; subst hw2) | (go_at_call 14; refine (class_c _ _).mono ?_; rintro e w' ⟨rfl, hw⟩; have hw2 := hw.symm; subst hw2))
  refine bodyPost_ret (results_cell1 rfl _ _ _ w.heap.size 0 rfl _ (load_form (f := formN 53) (s := .slice none 0 0) ((Box.new w _ _).alloc _) (by rfl))) rfl ⟨_, rfl, (((Later.refl w).alloc _).alloc _), .slice none 0 0, rfl, (rw_none3 _)⟩
set_option maxHeartbeats 1000000 in
theorem bform_145 (w : World) : Calls Try.prog 30 #[.int .i64 145] w fun e w' => ∃ v, e = .returned v ∧ Later w w' ∧ FormV w' v (formN 145) := by
  have hc := show classI 145 = 4 from rfl
  go_enter Try.func30, Try.ntmps30
  go_wp2_with
    (first | (go_at_call 32; refine (some_c _ _ _ _).mono ?_; rintro e w' ⟨rfl, hw⟩; have hw2 := hw.symm; subst hw2) | (go_at_call 31; refine (whole_c _ _ _ (by decide) (by decide)).mono ?_; rintro e w' ⟨rfl, hw⟩; have hw2 := hw.symm; subst hw2) | (go_at_call 14; refine (class_c _ _).mono ?_; rintro e w' ⟨rfl, hw⟩; have hw2 := hw.symm; subst hw2))
  refine bodyPost_ret (results_cell1 rfl _ _ _ w.heap.size 0 rfl _ (load_form (f := formN 145) (s := .slice none 0 0) ((Box.new w _ _).alloc _) (by rfl))) rfl ⟨_, rfl, (((Later.refl w).alloc _).alloc _), .slice none 0 0, rfl, (rw_none3 _)⟩
set_option maxHeartbeats 1000000 in
theorem bform_47 (w : World) : Calls Try.prog 30 #[.int .i64 47] w fun e w' => ∃ v, e = .returned v ∧ Later w w' ∧ FormV w' v (formN 47) := by
  have hc := show classI 47 = 3 from rfl
  go_enter Try.func30, Try.ntmps30
  go_wp2_with
    (first | (go_at_call 32; refine (some_c _ _ _ _).mono ?_; rintro e w' ⟨rfl, hw⟩; have hw2 := hw.symm; subst hw2) | (go_at_call 31; refine (whole_c _ _ _ (by decide) (by decide)).mono ?_; rintro e w' ⟨rfl, hw⟩; have hw2 := hw.symm; subst hw2) | (go_at_call 14; refine (class_c _ _).mono ?_; rintro e w' ⟨rfl, hw⟩; have hw2 := hw.symm; subst hw2))
  refine bodyPost_ret (results_cell1 rfl _ _ _ w.heap.size 0 rfl _ (load_form (f := formN 47) (s := .slice (some ⟨w.heap.size + 1 + 1, 0, none⟩) 1 1) (((Box.new w _ _).alloc _).alloc _) (by rfl))) rfl ⟨_, rfl, ((((Later.refl w).alloc _).alloc _).alloc _), .slice (some ⟨w.heap.size + 1 + 1, 0, none⟩) 1 1, rfl, (rw_of_box3 (Box.new' _ _ _ _ rfl _ (by simp)) (by rfl) (by rfl) (by rfl) (by decide))⟩
set_option maxHeartbeats 1000000 in
theorem bform_143 (w : World) : Calls Try.prog 30 #[.int .i64 143] w fun e w' => ∃ v, e = .returned v ∧ Later w w' ∧ FormV w' v (formN 143) := by
  have hc := show classI 143 = 3 from rfl
  go_enter Try.func30, Try.ntmps30
  go_wp2_with
    (first | (go_at_call 32; refine (some_c _ _ _ _).mono ?_; rintro e w' ⟨rfl, hw⟩; have hw2 := hw.symm; subst hw2) | (go_at_call 31; refine (whole_c _ _ _ (by decide) (by decide)).mono ?_; rintro e w' ⟨rfl, hw⟩; have hw2 := hw.symm; subst hw2) | (go_at_call 14; refine (class_c _ _).mono ?_; rintro e w' ⟨rfl, hw⟩; have hw2 := hw.symm; subst hw2))
  refine bodyPost_ret (results_cell1 rfl _ _ _ w.heap.size 0 rfl _ (load_form (f := formN 143) (s := .slice (some ⟨w.heap.size + 1 + 1, 0, none⟩) 1 1) (((Box.new w _ _).alloc _).alloc _) (by rfl))) rfl ⟨_, rfl, ((((Later.refl w).alloc _).alloc _).alloc _), .slice (some ⟨w.heap.size + 1 + 1, 0, none⟩) 1 1, rfl, (rw_of_box3 (Box.new' _ _ _ _ rfl _ (by simp)) (by rfl) (by rfl) (by rfl) (by decide))⟩
set_option maxHeartbeats 1000000 in
theorem bform_175 (w : World) : Calls Try.prog 30 #[.int .i64 175] w fun e w' => ∃ v, e = .returned v ∧ Later w w' ∧ FormV w' v (formN 175) := by
  have hc := show classI 175 = 3 from rfl
  go_enter Try.func30, Try.ntmps30
  go_wp2_with
    (first | (go_at_call 32; refine (some_c _ _ _ _).mono ?_; rintro e w' ⟨rfl, hw⟩; have hw2 := hw.symm; subst hw2) | (go_at_call 31; refine (whole_c _ _ _ (by decide) (by decide)).mono ?_; rintro e w' ⟨rfl, hw⟩; have hw2 := hw.symm; subst hw2) | (go_at_call 14; refine (class_c _ _).mono ?_; rintro e w' ⟨rfl, hw⟩; have hw2 := hw.symm; subst hw2))
  refine bodyPost_ret (results_cell1 rfl _ _ _ w.heap.size 0 rfl _ (load_form (f := formN 175) (s := .slice (some ⟨w.heap.size + 1 + 1, 0, none⟩) 1 1) (((Box.new w _ _).alloc _).alloc _) (by rfl))) rfl ⟨_, rfl, ((((Later.refl w).alloc _).alloc _).alloc _), .slice (some ⟨w.heap.size + 1 + 1, 0, none⟩) 1 1, rfl, (rw_of_box3 (Box.new' _ _ _ _ rfl _ (by simp)) (by rfl) (by rfl) (by rfl) (by decide))⟩
set_option maxHeartbeats 1000000 in
theorem fselect_c (x : Nat) (w : World) : Calls Try.prog 33 #[.int .u16 x] w fun e w' => ∃ v, e = .returned v ∧ Later w w' ∧ FormV w' v (0, x, 0, 0, 0, [(193, 1, 1), (129, 0, 0)]) := by
  go_enter Try.func33, Try.ntmps33
  go_wp2_with
    (first | (go_at_call 32; refine (some_c _ _ _ _).mono ?_; rintro e w' ⟨rfl, hw⟩; have hw2 := hw.symm; subst hw2) | (go_at_call 31; refine (whole_c _ _ _ (by decide) (by decide)).mono ?_; rintro e w' ⟨rfl, hw⟩; have hw2 := hw.symm; subst hw2) | (go_at_call 14; refine (class_c _ _).mono ?_; rintro e w' ⟨rfl, hw⟩; have hw2 := hw.symm; subst hw2))
  refine bodyPost_ret (results_cell1 rfl _ _ _ w.heap.size 0 rfl _ (load_form (f := (0, x, 0, 0, 0, [(193, 1, 1), (129, 0, 0)])) (s := .slice (some ⟨w.heap.size + 1, 0, none⟩) 2 2) ((Box.new w _ _).alloc _) (by rfl))) rfl ⟨_, rfl, (((Later.refl w).alloc _).alloc _), .slice (some ⟨w.heap.size + 1, 0, none⟩) 2 2, rfl, (rw_of_box3 (Box.new' _ _ _ _ rfl _ (by simp)) (by rfl) (by rfl) (by rfl) (by decide))⟩
set_option maxHeartbeats 1000000 in
theorem fsense_c (x : Nat) (w : World) : Calls Try.prog 34 #[.int .u16 x] w fun e w' => ∃ v, e = .returned v ∧ Later w w' ∧ FormV w' v (0, x, 770, 354, 0, [(1027, 0, 0)]) := by
  go_enter Try.func34, Try.ntmps34
  go_wp2_with
    (first | (go_at_call 32; refine (some_c _ _ _ _).mono ?_; rintro e w' ⟨rfl, hw⟩; have hw2 := hw.symm; subst hw2) | (go_at_call 31; refine (whole_c _ _ _ (by decide) (by decide)).mono ?_; rintro e w' ⟨rfl, hw⟩; have hw2 := hw.symm; subst hw2) | (go_at_call 14; refine (class_c _ _).mono ?_; rintro e w' ⟨rfl, hw⟩; have hw2 := hw.symm; subst hw2))
  refine bodyPost_ret (results_cell1 rfl _ _ _ w.heap.size 0 rfl _ (load_form (f := (0, x, 770, 354, 0, [(1027, 0, 0)])) (s := .slice (some ⟨w.heap.size + 1, 0, none⟩) 1 1) ((Box.new w _ _).alloc _) (by rfl))) rfl ⟨_, rfl, (((Later.refl w).alloc _).alloc _), .slice (some ⟨w.heap.size + 1, 0, none⟩) 1 1, rfl, (rw_of_box3 (Box.new' _ _ _ _ rfl _ (by simp)) (by rfl) (by rfl) (by rfl) (by decide))⟩
end Go.Proofs.Ytccdgpadjfjoeaa
