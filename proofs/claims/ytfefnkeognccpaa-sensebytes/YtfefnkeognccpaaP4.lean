import Derived.Test.YtfefnkeognccpaaL4E
import Derived.Test.YtfefnkeognccpaaB2
import Derived.Deep.OwnRows
namespace Go.Proofs.Ytfefnkeognccpaa
open Go.ChangeShapes Go.WideShapes Go.ChangeAt Go.RowKit
set_option linter.unusedVariables false
set_option linter.unusedSimpArgs false

/-! The landed sense: the sixteen senses, Good, Bytes. -/
theorem con_NotReady : IConS 25 (2, 58, 0) := by
  intro w
  have B0 := hide (Box.new w 23 #[.int .i64 2, .int .i64 58, .int .i64 0])
  have L0 := hide ((Later.refl w).alloc (.cells #[.int .i64 2, .int .i64 58, .int .i64 0] 23))
  go_enter Try.func25, Try.ntmps25
  go_wp2
  exact bodyPost_ret (results_cell1 rfl _ _ _ w.heap.size 0 rfl (sval (2, 58, 0)) (run_loadVar_mid _ _ _ _ [.int .i64 2, .int .i64 58, .int .i64 0] _ B0.out.range Try.underlying23 rfl (by kernel_rfl))) rfl ⟨rfl, L0.out⟩
theorem con_Protected : IConS 26 (7, 39, 0) := by
  intro w
  have B0 := hide (Box.new w 23 #[.int .i64 7, .int .i64 39, .int .i64 0])
  have L0 := hide ((Later.refl w).alloc (.cells #[.int .i64 7, .int .i64 39, .int .i64 0] 23))
  go_enter Try.func26, Try.ntmps26
  go_wp2
  exact bodyPost_ret (results_cell1 rfl _ _ _ w.heap.size 0 rfl (sval (7, 39, 0)) (run_loadVar_mid _ _ _ _ [.int .i64 7, .int .i64 39, .int .i64 0] _ B0.out.range Try.underlying23 rfl (by kernel_rfl))) rfl ⟨rfl, L0.out⟩
theorem con_Kept : IConS 27 (5, 83, 2) := by
  intro w
  have B0 := hide (Box.new w 23 #[.int .i64 5, .int .i64 83, .int .i64 2])
  have L0 := hide ((Later.refl w).alloc (.cells #[.int .i64 5, .int .i64 83, .int .i64 2] 23))
  go_enter Try.func27, Try.ntmps27
  go_wp2
  exact bodyPost_ret (results_cell1 rfl _ _ _ w.heap.size 0 rfl (sval (5, 83, 2)) (run_loadVar_mid _ _ _ _ [.int .i64 5, .int .i64 83, .int .i64 2] _ B0.out.range Try.underlying23 rfl (by kernel_rfl))) rfl ⟨rfl, L0.out⟩
theorem con_Range : IConS 28 (5, 33, 0) := by
  intro w
  have B0 := hide (Box.new w 23 #[.int .i64 5, .int .i64 33, .int .i64 0])
  have L0 := hide ((Later.refl w).alloc (.cells #[.int .i64 5, .int .i64 33, .int .i64 0] 23))
  go_enter Try.func28, Try.ntmps28
  go_wp2
  exact bodyPost_ret (results_cell1 rfl _ _ _ w.heap.size 0 rfl (sval (5, 33, 0)) (run_loadVar_mid _ _ _ _ [.int .i64 5, .int .i64 33, .int .i64 0] _ B0.out.range Try.underlying23 rfl (by kernel_rfl))) rfl ⟨rfl, L0.out⟩
theorem con_Field : IConS 29 (5, 36, 0) := by
  intro w
  have B0 := hide (Box.new w 23 #[.int .i64 5, .int .i64 36, .int .i64 0])
  have L0 := hide ((Later.refl w).alloc (.cells #[.int .i64 5, .int .i64 36, .int .i64 0] 23))
  go_enter Try.func29, Try.ntmps29
  go_wp2
  exact bodyPost_ret (results_cell1 rfl _ _ _ w.heap.size 0 rfl (sval (5, 36, 0)) (run_loadVar_mid _ _ _ _ [.int .i64 5, .int .i64 36, .int .i64 0] _ B0.out.range Try.underlying23 rfl (by kernel_rfl))) rfl ⟨rfl, L0.out⟩
theorem con_Unknown : IConS 30 (5, 32, 0) := by
  intro w
  have B0 := hide (Box.new w 23 #[.int .i64 5, .int .i64 32, .int .i64 0])
  have L0 := hide ((Later.refl w).alloc (.cells #[.int .i64 5, .int .i64 32, .int .i64 0] 23))
  go_enter Try.func30, Try.ntmps30
  go_wp2
  exact bodyPost_ret (results_cell1 rfl _ _ _ w.heap.size 0 rfl (sval (5, 32, 0)) (run_loadVar_mid _ _ _ _ [.int .i64 5, .int .i64 32, .int .i64 0] _ B0.out.range Try.underlying23 rfl (by kernel_rfl))) rfl ⟨rfl, L0.out⟩
theorem con_NoUnit : IConS 31 (5, 37, 0) := by
  intro w
  have B0 := hide (Box.new w 23 #[.int .i64 5, .int .i64 37, .int .i64 0])
  have L0 := hide ((Later.refl w).alloc (.cells #[.int .i64 5, .int .i64 37, .int .i64 0] 23))
  go_enter Try.func31, Try.ntmps31
  go_wp2
  exact bodyPost_ret (results_cell1 rfl _ _ _ w.heap.size 0 rfl (sval (5, 37, 0)) (run_loadVar_mid _ _ _ _ [.int .i64 5, .int .i64 37, .int .i64 0] _ B0.out.range Try.underlying23 rfl (by kernel_rfl))) rfl ⟨rfl, L0.out⟩
theorem con_Parameter : IConS 32 (5, 38, 0) := by
  intro w
  have B0 := hide (Box.new w 23 #[.int .i64 5, .int .i64 38, .int .i64 0])
  have L0 := hide ((Later.refl w).alloc (.cells #[.int .i64 5, .int .i64 38, .int .i64 0] 23))
  go_enter Try.func32, Try.ntmps32
  go_wp2
  exact bodyPost_ret (results_cell1 rfl _ _ _ w.heap.size 0 rfl (sval (5, 38, 0)) (run_loadVar_mid _ _ _ _ [.int .i64 5, .int .i64 38, .int .i64 0] _ B0.out.range Try.underlying23 rfl (by kernel_rfl))) rfl ⟨rfl, L0.out⟩
theorem con_Length : IConS 33 (5, 26, 0) := by
  intro w
  have B0 := hide (Box.new w 23 #[.int .i64 5, .int .i64 26, .int .i64 0])
  have L0 := hide ((Later.refl w).alloc (.cells #[.int .i64 5, .int .i64 26, .int .i64 0] 23))
  go_enter Try.func33, Try.ntmps33
  go_wp2
  exact bodyPost_ret (results_cell1 rfl _ _ _ w.heap.size 0 rfl (sval (5, 26, 0)) (run_loadVar_mid _ _ _ _ [.int .i64 5, .int .i64 26, .int .i64 0] _ B0.out.range Try.underlying23 rfl (by kernel_rfl))) rfl ⟨rfl, L0.out⟩
theorem con_Saving : IConS 34 (5, 57, 0) := by
  intro w
  have B0 := hide (Box.new w 23 #[.int .i64 5, .int .i64 57, .int .i64 0])
  have L0 := hide ((Later.refl w).alloc (.cells #[.int .i64 5, .int .i64 57, .int .i64 0] 23))
  go_enter Try.func34, Try.ntmps34
  go_wp2
  exact bodyPost_ret (results_cell1 rfl _ _ _ w.heap.size 0 rfl (sval (5, 57, 0)) (run_loadVar_mid _ _ _ _ [.int .i64 5, .int .i64 57, .int .i64 0] _ B0.out.range Try.underlying23 rfl (by kernel_rfl))) rfl ⟨rfl, L0.out⟩
theorem con_Differs : IConS 35 (14, 29, 0) := by
  intro w
  have B0 := hide (Box.new w 23 #[.int .i64 14, .int .i64 29, .int .i64 0])
  have L0 := hide ((Later.refl w).alloc (.cells #[.int .i64 14, .int .i64 29, .int .i64 0] 23))
  go_enter Try.func35, Try.ntmps35
  go_wp2
  exact bodyPost_ret (results_cell1 rfl _ _ _ w.heap.size 0 rfl (sval (14, 29, 0)) (run_loadVar_mid _ _ _ _ [.int .i64 14, .int .i64 29, .int .i64 0] _ B0.out.range Try.underlying23 rfl (by kernel_rfl))) rfl ⟨rfl, L0.out⟩
theorem con_PowerOn : IConS 19 (6, 41, 0) := by
  intro w
  have B0 := hide (Box.new w 23 #[.int .i64 6, .int .i64 41, .int .i64 0])
  have L0 := hide ((Later.refl w).alloc (.cells #[.int .i64 6, .int .i64 41, .int .i64 0] 23))
  go_enter Try.func19, Try.ntmps19
  go_wp2
  exact bodyPost_ret (results_cell1 rfl _ _ _ w.heap.size 0 rfl (sval (6, 41, 0)) (run_loadVar_mid _ _ _ _ [.int .i64 6, .int .i64 41, .int .i64 0] _ B0.out.range Try.underlying23 rfl (by kernel_rfl))) rfl ⟨rfl, L0.out⟩
theorem con_BusReset : IConS 20 (6, 41, 2) := by
  intro w
  have B0 := hide (Box.new w 23 #[.int .i64 6, .int .i64 41, .int .i64 2])
  have L0 := hide ((Later.refl w).alloc (.cells #[.int .i64 6, .int .i64 41, .int .i64 2] 23))
  go_enter Try.func20, Try.ntmps20
  go_wp2
  exact bodyPost_ret (results_cell1 rfl _ _ _ w.heap.size 0 rfl (sval (6, 41, 2)) (run_loadVar_mid _ _ _ _ [.int .i64 6, .int .i64 41, .int .i64 2] _ B0.out.range Try.underlying23 rfl (by kernel_rfl))) rfl ⟨rfl, L0.out⟩
theorem con_UnitReset : IConS 21 (6, 41, 3) := by
  intro w
  have B0 := hide (Box.new w 23 #[.int .i64 6, .int .i64 41, .int .i64 3])
  have L0 := hide ((Later.refl w).alloc (.cells #[.int .i64 6, .int .i64 41, .int .i64 3] 23))
  go_enter Try.func21, Try.ntmps21
  go_wp2
  exact bodyPost_ret (results_cell1 rfl _ _ _ w.heap.size 0 rfl (sval (6, 41, 3)) (run_loadVar_mid _ _ _ _ [.int .i64 6, .int .i64 41, .int .i64 3] _ B0.out.range Try.underlying23 rfl (by kernel_rfl))) rfl ⟨rfl, L0.out⟩
theorem con_NexusLoss : IConS 22 (6, 41, 7) := by
  intro w
  have B0 := hide (Box.new w 23 #[.int .i64 6, .int .i64 41, .int .i64 7])
  have L0 := hide ((Later.refl w).alloc (.cells #[.int .i64 6, .int .i64 41, .int .i64 7] 23))
  go_enter Try.func22, Try.ntmps22
  go_wp2
  exact bodyPost_ret (results_cell1 rfl _ _ _ w.heap.size 0 rfl (sval (6, 41, 7)) (run_loadVar_mid _ _ _ _ [.int .i64 6, .int .i64 41, .int .i64 7] _ B0.out.range Try.underlying23 rfl (by kernel_rfl))) rfl ⟨rfl, L0.out⟩
theorem con_NewMedium : IConS 23 (6, 40, 0) := by
  intro w
  have B0 := hide (Box.new w 23 #[.int .i64 6, .int .i64 40, .int .i64 0])
  have L0 := hide ((Later.refl w).alloc (.cells #[.int .i64 6, .int .i64 40, .int .i64 0] 23))
  go_enter Try.func23, Try.ntmps23
  go_wp2
  exact bodyPost_ret (results_cell1 rfl _ _ _ w.heap.size 0 rfl (sval (6, 40, 0)) (run_loadVar_mid _ _ _ _ [.int .i64 6, .int .i64 40, .int .i64 0] _ B0.out.range Try.underlying23 rfl (by kernel_rfl))) rfl ⟨rfl, L0.out⟩
theorem con_all : ICons := ⟨con_NotReady, con_Protected, con_Kept, con_Range, con_Field, con_Unknown, con_NoUnit, con_Parameter, con_Length, con_Saving, con_Differs, con_PowerOn, con_BusReset, con_UnitReset, con_NexusLoss, con_NewMedium⟩

theorem sgood_c : IGoodS := by
  intro s w hs
  have BX := hide (Box.new w 23 #[.int .i64 s.1, .int .i64 s.2.1, .int .i64 s.2.2])
  have L0 := hide ((Later.refl w).alloc (.cells #[.int .i64 s.1, .int .i64 s.2.1, .int .i64 s.2.2] 23))
  go_enter Try.func12, Try.ntmps12
  go_wp2_with (refine wpList_eqS (by kernel_rfl) (.tmp 3) (.tmp 4) rfl s (0, 0, 0) rfl rfl ?_)
  go_ret
  exact ⟨rfl, L0.out⟩

theorem run_make18 (w : World) : (Instr.makeSlice 24 (.int .i64 18) (.int .i64 18)).run Try.prog w = .ok (.slice (some ⟨w.heap.size, 0, none⟩) 18 18) (w.alloc (.cells #[.int .u8 0, .int .u8 0, .int .u8 0, .int .u8 0, .int .u8 0, .int .u8 0, .int .u8 0, .int .u8 0, .int .u8 0, .int .u8 0, .int .u8 0, .int .u8 0, .int .u8 0, .int .u8 0, .int .u8 0, .int .u8 0, .int .u8 0, .int .u8 0] 5)) := by
  have := run_make_row' (P := Try.prog) 24 5 (.int .u8 0) 1 Try.underlying24 Try.info_u8 rfl .i64 .i64 18 (by decide) (by decide) w
  rw [show madeCells #[Value.int .u8 0] 18 = #[.int .u8 0, .int .u8 0, .int .u8 0, .int .u8 0, .int .u8 0, .int .u8 0, .int .u8 0, .int .u8 0, .int .u8 0, .int .u8 0, .int .u8 0, .int .u8 0, .int .u8 0, .int .u8 0, .int .u8 0, .int .u8 0, .int .u8 0, .int .u8 0] from by apply Array.toList_inj.1; rw [show (#[Value.int .u8 0] : Array Value) = Array.replicate 1 (.int .u8 0) from rfl, madeCells_rep _ 1 18 (by decide)]; rfl] at this
  exact this
set_option maxRecDepth 20000 in
set_option maxHeartbeats 1000000 in
theorem sbytes_c : IBytesS := by
  intro s w hs
  have BX := hide (Box.new w 23 #[.int .i64 s.1, .int .i64 s.2.1, .int .i64 s.2.2])
  have L0 := hide ((Later.refl w).alloc (.cells #[.int .i64 s.1, .int .i64 s.2.1, .int .i64 s.2.2] 23))
  have hmk := run_make18
  go_enter Try.func10, Try.ntmps10
  go_wp2

  go_ret
  refine ⟨_, rfl, ((Later.refl w).alloc _).alloc _, ?_⟩
  refine bs_of_box (Box.new' _ _ _ _ rfl _ (by simp)) ?_ (bytesL_length s) (by omega)
  simp [bv, bytesL, b8_nat]
end Go.Proofs.Ytfefnkeognccpaa
