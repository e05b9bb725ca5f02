import Derived.Test.YtmelkgmbiiobgaaMAJ
import Derived.Test.YtmelkgmbiiobgaaMAD
import Derived.Test.YtmelkgmbiiobgaaWL11B
import Derived.Test.YtmelkgmbiiobgaaMAB
namespace Go.Proofs.Ytmelkgmbiiobgaa
open Go Go.RowKit
set_option linter.unusedVariables false
set_option maxRecDepth 4000
set_option linter.unusedSimpArgs false
/-! Regions that draw their order: operations that touch no memory first (α), then such as read what a last one changes (μ), all of which one (x) waits for; behind it whatever alone may come up. -/
section
variable {P : Program} {ops : Array Oper}
def topI : World → Prop := fun _ => True
end
end Go.Proofs.Ytmelkgmbiiobgaa

namespace Go.Proofs.Ytmelkgmbiiobgaa
open Go.ChangeShapes Go.WideShapes Go.ChangeAt Go.RowKit
set_option linter.unusedVariables false
set_option maxRecDepth 4000
set_option linter.unusedSimpArgs false
/-! The fixed fact of layer 11: what it stands on. -/
def y192 : List UInt8 := List.replicate 192 0
theorem jOp_of_run {P : Program} {ops : Array Oper} {i : Nat} {o : Oper} {a : Act} {w w' : World} {v : Value} {K : Act → World → Prop} (ho : ops[i]? = some o) (hgd : o.guard = none) (hrun : (execOp a.eval o).run P w = .ok (.value v) w') (hK : K (a.put o.dst v) w') : jOp P ops topI i K a w := by
  unfold jOp
  simp only [ho]
  rw [if_pos (by simp [Region.wanted, hgd]), hrun]
  exact ⟨trivial, hK⟩
set_option maxHeartbeats 2000000 in
theorem unit11_c (w : World) : Calls Try.prog 20 #[] w fun e w' => ∃ v, e = .returned v ∧ Later w w' ∧ Un w' v 3 y192 [] true false false true none 0 0 (5, 33, 0) := by
  have BX : Hid (Box (w.alloc (.cells #[.slice none 0 0, .slice none 0 0, .bool false, .bool false, .bool false, .bool false, .slice none 0 0, .int .i64 0, .int .i64 0, .int .i64 0] 32)) w.heap.size 32 (uc none 0 0 none 0 0 false false false false none 0 0 (0, 0, 0))) := Box.new w 32 #[.slice none 0 0, .slice none 0 0, .bool false, .bool false, .bool false, .bool false, .slice none 0 0, .int .i64 0, .int .i64 0, .int .i64 0]
  have LL := hide ((Later.refl w).alloc (.cells #[.slice none 0 0, .slice none 0 0, .bool false, .bool false, .bool false, .bool false, .slice none 0 0, .int .i64 0, .int .i64 0, .int .i64 0] 32))
  go_enter Try.func20, Try.ntmps20
  go_wp2_with fail
  generalize w.alloc (.cells #[.slice none 0 0, .slice none 0 0, .bool false, .bool false, .bool false, .bool false, .slice none 0 0, .int .i64 0, .int .i64 0, .int .i64 0] 32) = w1 at *
  obtain ⟨gx, hgx⟩ : ∃ gx, gx = w.heap.size := ⟨_, rfl⟩
  rw [← hgx] at BX ⊢
  have HG : Hid (w.heap.size ≤ gx) := by rw [Hid]; omega
  clear hgx
  have hwd := (Later.refl w1).drew
  refine wp_region_held topI (fun _ _ _ _ => trivial) trivial [(3, false), (0, true), (1, false), (2, false), (4, false), (5, true)] (by kernel_rfl) (by kernel_rfl) (by kernel_rfl) (by kernel_rfl) ?_
  haveI : Nonempty (Held topI) := ⟨⟨w1, trivial⟩⟩
  refine wpJ_call rfl (by kernel_rfl) 21 (Plain.of (by kernel_rfl)) [.const (.int .i64 5), .const (.int .i64 33), .const (.int .i64 0)] _ rfl [.int .i64 5, .int .i64 33, .int .i64 0] rfl (sval (5, 33, 0)) (fun wx hx => rof_c 5 33 0 wx) ?_
  intro W hW
  obtain ⟨i0, hi, hz0, hz1, hz2⟩ := Try.elem_z64
  obtain ⟨w2, hrun, ho, hgr⟩ := run_make_full (P := Try.prog) (w := W) W.heap.size 22 50 i0 z64 64 Try.underlying22 hi hz0 hz1 .i64 .i64 3 (by rw [hz2]; decide) (by decide) (Nat.le_refl _)
  refine jOp_of_run (v := .slice (some ⟨W.heap.size, 0, none⟩) 3 3) (w' := w2) rfl rfl ?_ ?_
  · have hrun2 : (Instr.makeSlice 22 (.int .i64 3) (.int .i64 3)).run Try.prog W = .ok (.slice (some ⟨W.heap.size, 0, none⟩) 3 3) w2 := hrun
    simp [execOp, hrun2, Result.andThen]
    go_simp
  rw [made64 3] at ho
  have hl : Later W w2 := Below.grown0 hgr
  replace LL := hide ((LL.out.trans (hwd.trans hW)).trans hl)
  replace BX := hide (BX.out.later ((hwd.trans hW).trans hl))
  have HM : Hid (Med w2 (.agg #[.slice (some ⟨W.heap.size, 0, none⟩) 3 3, .slice none 0 0]) 3 y192 []) := ⟨_, _, rfl, Rw.of_owns ho, Rw.nil 65 _, fun d hd => by cases hd⟩
  clear ho hl hW hgr hrun hwd hi hz0 hz1 hz2
  generalize W.heap.size = gb at *
  iterate 3 (refine wpJ_mild rfl (fun K hK => ?_); go_simp; refine hK _ ?_; clear hK K)
  refine wpJ_store rfl rfl 32 (.tmp 0) (.tmp 5) rfl gx (uc (some ⟨gb, 0, none⟩) 3 3 none 0 0 true false false true none 0 0 (5, 33, 0)) rfl rfl Try.info_unit (uc_one _ _ _ _ _ _ _ _ _ _ _ _ _ _) _ _ BX.out (by simp) (fun W hW => trivial) ?_
  intro wl hl wz hz
  have BZ := (BX.out.later hl).all (uc (some ⟨gb, 0, none⟩) 3 3 none 0 0 true false false true none 0 0 (5, 33, 0)) rfl
  have LZ := (LL.out.trans hl).setCells HG.out (uc (some ⟨gb, 0, none⟩) 3 3 none 0 0 true false false true none 0 0 (5, 33, 0)) 0
  have MZ := (HM.out.later hl).setNoB (BX.out.later hl) (uc_nob _ _ _ _ _ _ _ _ _ _ _ _ _ _) (uc (some ⟨gb, 0, none⟩) 3 3 none 0 0 true false false true none 0 0 (5, 33, 0)) 0
  rw [← hz.out] at BZ LZ MZ
  refine wpJ_nil (fun wn hn => ?_)
  replace BZ := hide (BZ.later hn)
  replace LZ := hide (LZ.trans hn)
  replace MZ := hide (MZ.later hn)
  clear hn hl hz HM BX LL
  go_wp2
  refine bodyPost_ret (results_cell1 rfl _ _ _ gx 0 rfl _ (load_unit BZ.out rfl)) rfl ⟨_, rfl, LZ.out, ⟨_, _, _, _, _, rfl, MZ.out⟩⟩
def bg (F : List UInt8) (D : List Drt) (p l : Bool) (M : List Sns) (s : Sns) (c : Cmd) : Utt × Itt := begI 3 F D p false l true M s 0 1 c
def bq1 : Utt × Itt := bg y192 [] true false [] (5, 33, 0) (40, 1, 2, 0, 0)
def bq2 : Utt × Itt := bg y192 [] true false [] (5, 33, 0) (40, 2, 2, 0, 0)
def bq3 : Utt × Itt := bg y192 [] true false [] (5, 33, 0) (42, 2, 1, 0, 0)
def bq4 : Utt × Itt := bg y192 [] true false [] (5, 33, 0) (3, 0, 18, 0, 0)
def bq5 : Utt × Itt := bg y192 [] true false [] (5, 33, 0) (27, 0, 0, 0, 2)
def bq6 : Utt × Itt := bg bq5.1.1 bq5.1.2.1 false false [] (5, 33, 0) (27, 0, 0, 0, 3)
def bq7 : Utt × Itt := bg bq5.1.1 bq5.1.2.1 false false [] (5, 33, 0) (37, 0, 0, 0, 0)
def bq8 : Utt × Itt := bg bq5.1.1 bq5.1.2.1 true false bq6.1.2.2.2.2.1 (5, 33, 0) (255, 0, 0, 0, 0)
theorem bq1_f : bq1.2.1 = 1 ∧ bq1.2.2.1 = 128 ∧ bq1.2.2.2.1.length = 128 := by decide +kernel
theorem bq2_f : bq2.2.1 = 0 ∧ bq2.2.2.2.2.2.2 = (5, 33, 0) := by decide +kernel
theorem bq3_f : bq3.2.1 = 2 ∧ bq3.2.2.1 = 64 := by decide +kernel
theorem bq4_f : bq4.2.2.1 = 18 ∧ bq4.2.2.2.1.length = 18 ∧ bq4.2.2.2.1[12]? = some 33 ∧ bq4.1.2.2.2.2.2 = (0, 0, 0) := by decide +kernel
theorem bq5_f : bq5.2 = noneI (0, 0, 0) ∧ bq5.1.2.2.1 = false ∧ bq5.1.2.2.2.1 = false ∧ bq5.1.2.2.2.2.1 = [] ∧ bq5.1.2.2.2.2.2 = (5, 33, 0) ∧ bq5.1.2.1 = [] := ⟨by kernel_rfl, by kernel_rfl, by kernel_rfl, by kernel_rfl, by kernel_rfl, by kernel_rfl⟩
theorem bq6_f : bq6.2 = noneI (0, 0, 0) ∧ bq6.1.1 = bq5.1.1 ∧ bq6.1.2.1 = bq5.1.2.1 ∧ bq6.1.2.2.1 = true ∧ bq6.1.2.2.2.1 = false ∧ bq6.1.2.2.2.2.1.length = 1 ∧ bq6.1.2.2.2.2.2 = (5, 33, 0) := ⟨by kernel_rfl, by kernel_rfl, by kernel_rfl, by kernel_rfl, by kernel_rfl, by kernel_rfl, by kernel_rfl⟩
theorem bq7_f : bq7.2.2.2.2.2.2 = (2, 58, 0) := by decide +kernel
theorem bq8_f : bq8.2.2.2.2.2.2 = (5, 32, 0) := by decide +kernel
end Go.Proofs.Ytmelkgmbiiobgaa
