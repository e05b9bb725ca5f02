import Derived.Test.YtoflkbilkkfekaaWL9A
namespace Go.Proofs.Ytoflkbilkkfekaa
open Go.ChangeShapes Go.WideShapes Go.ChangeAt Go.RowKit
set_option linter.unusedVariables false
set_option linter.unusedSimpArgs false

set_option maxRecDepth 20000 in
set_option maxHeartbeats 4000000 in
theorem capacityTells_walk (b k n : Int) (w : World) (hn : In64 n) :
    Calls Try.prog 3 #[.int .i64 b, .int .i64 k, .int .i64 n] w fun e w' => e = .returned (.bool true) ∧ Below w.heap.size w w' := by
  have HN := hide hn
  clear hn
  go_enter Try.func3, Try.ntmps3
  go_wp2_with fail
  refine (alive9_c _).mono ?_
  rintro e w1 ⟨rfl, hl⟩
  have LL := hide hl
  clear hl
  go_wp2_with fail
  obtain ⟨A, hA⟩ : ∃ A, A = tenL b := ⟨_, rfl⟩
  obtain ⟨B, hB⟩ : ∃ B, B = cutL (sixL b) n := ⟨_, rfl⟩
  obtain ⟨C, hC⟩ : ∃ C, C = cutL (lunsL (cntN k)) n := ⟨_, rfl⟩
  have HA := hide hA
  have HB := hide hB
  have HC := hide hC
  clear hA hB hC
  refine wp_region_sched [(0, false), (3, false), (1, true), (2, false), (4, true), (5, false), (6, false), (7, false), (8, false), (9, false), (12, false), (13, false), (10, true), (11, false), (14, true), (15, false), (16, false), (17, false), (18, false), (19, false), (20, false), (23, false), (24, false), (21, true), (22, false), (25, true), (26, false), (27, false), (28, false), (29, false)] (by kernel_rfl) (by kernel_rfl) (by kernel_rfl) (by kernel_rfl) ?_
  iterate 2 (refine wpS_mild rfl (fun K hK => ?_); go_simp; refine hK _ ?_; clear hK K)
  refine wpS_callL rfl (by kernel_rfl) 7 (Plain.of (by kernel_rfl)) [.tmp 9] _ rfl [.int .i64 b] rfl (fun v W => Bs W v A) (fun wx hx => by rw [HA.out]; exact ten9_c b wx) ?_
  intro v1 q1 hl1 hb1
  replace LL := hide (LL.out.trans ((Later.refl _).drew.trans hl1))
  have gs := fun r => (hb1.later (later_rg q1 r)).str
  clear hl1 hb1
  iterate 1 (refine wpS_mild rfl (fun K hK => ?_); go_simp; refine hK _ ?_; clear hK K)
  clear gs
  refine wpS_callL rfl (by kernel_rfl) 8 (Plain.of (by kernel_rfl)) [.tmp 12] _ rfl [.int .i64 b] rfl (fun v W => Bs W v A) (fun wx hx => by rw [HA.out]; exact rten9_c b wx) ?_
  intro v2 q2 hl2 hb2
  replace LL := hide (LL.out.trans hl2)
  have gs := fun r => (hb2.later (later_rg q2 r)).str
  clear hl2 hb2
  iterate 7 (refine wpS_mild rfl (fun K hK => ?_); go_simp; refine hK _ ?_; clear hK K)
  clear gs
  refine wpS_callL rfl (by kernel_rfl) 9 (Plain.of (by kernel_rfl)) [.tmp 17, .tmp 18] _ rfl [.int .i64 b, .int .i64 n] rfl (fun v W => Bs W v B) (fun wx hx => by rw [HB.out]; exact six9_c b n HN.out wx) ?_
  intro v3 q3 hl3 hb3
  replace LL := hide (LL.out.trans hl3)
  have gs := fun r => (hb3.later (later_rg q3 r)).str
  clear hl3 hb3
  iterate 1 (refine wpS_mild rfl (fun K hK => ?_); go_simp; refine hK _ ?_; clear hK K)
  clear gs
  refine wpS_callL rfl (by kernel_rfl) 10 (Plain.of (by kernel_rfl)) [.tmp 21, .tmp 22] _ rfl [.int .i64 b, .int .i64 n] rfl (fun v W => Bs W v B) (fun wx hx => by rw [HB.out]; exact rsix9_c b n wx) ?_
  intro v4 q4 hl4 hb4
  replace LL := hide (LL.out.trans hl4)
  have gs := fun r => (hb4.later (later_rg q4 r)).str
  clear hl4 hb4
  iterate 8 (refine wpS_mild rfl (fun K hK => ?_); go_simp; refine hK _ ?_; clear hK K)
  clear gs
  refine wpS_callL rfl (by kernel_rfl) 11 (Plain.of (by kernel_rfl)) [.tmp 28, .tmp 29] _ rfl [.int .i64 k, .int .i64 n] rfl (fun v W => Bs W v C) (fun wx hx => by rw [HC.out]; exact luns9_c k n HN.out wx) ?_
  intro v5 q5 hl5 hb5
  replace LL := hide (LL.out.trans hl5)
  have gs := fun r => (hb5.later (later_rg q5 r)).str
  clear hl5 hb5
  iterate 1 (refine wpS_mild rfl (fun K hK => ?_); go_simp; refine hK _ ?_; clear hK K)
  clear gs
  refine wpS_callL rfl (by kernel_rfl) 12 (Plain.of (by kernel_rfl)) [.tmp 32, .tmp 33] _ rfl [.int .i64 k, .int .i64 n] rfl (fun v W => Bs W v C) (fun wx hx => by rw [HC.out]; exact rluns9_c k n wx) ?_
  intro v6 q6 hl6 hb6
  replace LL := hide (LL.out.trans hl6)
  have gs := fun r => (hb6.later (later_rg q6 r)).str
  clear hl6 hb6
  iterate 4 (refine wpS_mild rfl (fun K hK => ?_); go_simp; refine hK _ ?_; clear hK K)
  clear gs
  refine wpS_nil (fun wx hwx => ?_)
  have F := hide (LL.out.trans hwx)
  clear hwx
  go_wp2
  go_ret
  refine ⟨?_, F.out⟩
  first | rfl | simp
end Go.Proofs.Ytoflkbilkkfekaa
