import Derived.Test.YtfkojecipbjdpaaAlive1
import Derived.Test.YtfkojecipbjdpaaOpn
import Derived.Test.YtfkojecipbjdpaaReg
namespace Go.Proofs.Ytfkojecipbjdpaa
open Go.ChangeShapes Go.WideShapes Go.ChangeAt Go.RowKit
set_option linter.unusedVariables false
set_option linter.unusedSimpArgs false

theorem str_later {w w' : World} {v : Value} {l : List UInt8} {s : ByteArray} (hs : s = ⟨l.toArray⟩) (h : Bs w v l) (hb : Below w.heap.size w w') : (convert 22 9 v).run Try.prog w' = .ok (.string s) w' := by
  rw [hs]; exact (h.below hb (Nat.le_refl _)).str
theorem str_rg {w b : World} {v : Value} {l : List UInt8} {s : ByteArray} (hs : s = ⟨l.toArray⟩) (h : Bs w v l) (hb : Below w.heap.size w b) : ∀ p : Regrown, (convert 22 9 v).run Try.prog (rg b p) = .ok (.string s) (rg b p) :=
  fun p => str_later hs h (Later.trans hb (later_rg b p))

set_option maxHeartbeats 1000000 in
theorem numberPuts_walk (v0 v1 : Value) (w : World) (h0 : RInt .u64 v0) (h1 : RInt .i64 v1) :
    Calls Try.prog 4 #[v0, v1] w fun e w' => e = .returned (.bool true) ∧ Below w.heap.size w w' := by
  obtain ⟨a0, rfl, w0⟩ := h0
  obtain ⟨a1, rfl, w1⟩ := h1
  have hx := bounds_u64 w0
  obtain ⟨x, rfl⟩ := Int.eq_ofNat_of_zero_le hx.1
  have hx' : x ≤ 18446744073709551615 := by omega
  clear w0 w1 hx
  obtain ⟨s, hs⟩ : ∃ s : ByteArray, s = ⟨(putBeI x a1).toArray⟩ := ⟨_, rfl⟩
  obtain ⟨t, ht⟩ : ∃ s : ByteArray, s = ⟨(putLeI x a1).toArray⟩ := ⟨_, rfl⟩
  have HS := hide hs
  have HT := hide ht
  clear hs ht
  go_enter Try.func4, Try.ntmps4
  go_wp2_with fail
  refine (alive_c _ w.heap.size (Nat.le_refl _)).mono ?_
  rintro e w1 ⟨rfl, hb1⟩
  have Hb1 := hide hb1
  clear hb1
  go_wp2_with fail
  refine wp_region_sched [(0, false), (1, false), (4, false), (5, false), (2, true), (3, false), (6, true), (7, false), (8, false), (9, false), (10, false), (11, false), (14, false), (15, false), (12, true), (13, false), (16, true), (17, false), (18, false), (19, false), (20, false)] (by kernel_rfl) (by kernel_rfl) (by kernel_rfl) (by kernel_rfl) ?_
  repeat (refine wpS_mild rfl (fun K hK => ?_); go_simp; refine hK _ ?_; clear hK K)
  refine wpS_loud rfl (fun K hK w2 hw2 => ?_)
  go_simp
  refine (putBig_c x a1 _ _ (Nat.le_refl _) hx').mono ?_
  rintro e w3 ⟨v3, rfl, hb3, ho3⟩
  refine ⟨_, rfl, hb3, hK _ _ ?_⟩
  have L3 := hide ((Later.refl w1).drew.trans (hw2.trans hb3))
  have hc3 := str_rg HS.out (Bs.of_owns ho3).1 (Later.refl _)
  clear hK K hw2 hb3 ho3
  repeat (refine wpS_mild rfl (fun K hK => ?_); go_simp; refine hK _ ?_; clear hK K)
  refine wpS_loud rfl (fun K hK w4 hw4 => ?_)
  go_simp
  refine (rputBig_c x a1 _ _ (Nat.le_refl _) hx').mono ?_
  rintro e w5 ⟨v5, rfl, hb5, ho5⟩
  refine ⟨_, rfl, hb5, hK _ _ ?_⟩
  have L5 := hide (L3.out.trans (hw4.trans hb5))
  have hc5 := str_rg HS.out (Bs.of_owns ho5).1 (Later.refl _)
  clear hK K hw4 hb5 ho5 hc3 L3
  repeat (refine wpS_mild rfl (fun K hK => ?_); go_simp; refine hK _ ?_; clear hK K)
  refine wpS_loud rfl (fun K hK w6 hw6 => ?_)
  go_simp
  refine (putLittle_c x a1 _ _ (Nat.le_refl _) hx').mono ?_
  rintro e w7 ⟨v7, rfl, hb7, ho7⟩
  refine ⟨_, rfl, hb7, hK _ _ ?_⟩
  have L7 := hide (L5.out.trans (hw6.trans hb7))
  have hc7 := str_rg HT.out (Bs.of_owns ho7).1 (Later.refl _)
  clear hK K hw6 hb7 ho7 hc5 L5
  repeat (refine wpS_mild rfl (fun K hK => ?_); go_simp; refine hK _ ?_; clear hK K)
  refine wpS_loud rfl (fun K hK w8 hw8 => ?_)
  go_simp
  refine (rputLittle_c x a1 _ _ (Nat.le_refl _) hx').mono ?_
  rintro e w9 ⟨v9, rfl, hb9, ho9⟩
  refine ⟨_, rfl, hb9, hK _ _ ?_⟩
  have L9 := hide (L7.out.trans (hw8.trans hb9))
  have hc9 := str_rg HT.out (Bs.of_owns ho9).1 (Later.refl _)
  clear hK K hw8 hb9 ho9 hc7 L7
  repeat (refine wpS_mild rfl (fun K hK => ?_); go_simp; refine hK _ ?_; clear hK K)
  refine wpS_nil (fun wx hwx => ?_)
  have F := hide (Below.trans Hb1.out (Below.mono (L9.out.trans hwx) Hb1.out.size))
  clear hwx L9 hc9
  go_wp2
  go_ret
  exact ⟨rfl, F.out⟩
end Go.Proofs.Ytfkojecipbjdpaa
