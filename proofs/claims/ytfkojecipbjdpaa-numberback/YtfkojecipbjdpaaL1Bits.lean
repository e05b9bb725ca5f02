import Derived.Test.YtfkojecipbjdpaaAlive1
import Derived.Test.YtfkojecipbjdpaaOpn
import Derived.Test.YtfkojecipbjdpaaReg
namespace Go.Proofs.Ytfkojecipbjdpaa
open Go.ChangeShapes Go.WideShapes Go.ChangeAt Go.RowKit
set_option linter.unusedVariables false
set_option linter.unusedSimpArgs false

theorem bits_l (x : Nat) (f n : Int) (w : World) (hx : x ≤ 18446744073709551615) :
    Calls Try.prog 18 #[.int .u64 x, .int .i64 f, .int .i64 n] w fun e w' => e = .returned (.int .u64 (bitsI x f n : Int)) ∧ Later w w' :=
  (bits_c x f n w hx).mono fun e w' ⟨he, m, hm⟩ => ⟨he, by rw [hm]; exact (Later.refl w).drewN m⟩
theorem rbits_l (x : Nat) (f n : Int) (w : World) (hx : x ≤ 18446744073709551615) :
    Calls Try.prog 19 #[.int .u64 x, .int .i64 f, .int .i64 n] w fun e w' => e = .returned (.int .u64 (bitsI x f n : Int)) ∧ Later w w' :=
  (rbits_c x f n w hx).mono fun e w' ⟨he, hm⟩ => ⟨he, by rw [hm]; exact Later.refl w⟩
theorem set_l (x : Nat) (f n : Int) (y : Nat) (w : World) (hx : x ≤ 18446744073709551615) (hy : y ≤ 18446744073709551615) :
    Calls Try.prog 20 #[.int .u64 x, .int .i64 f, .int .i64 n, .int .u64 y] w fun e w' => e = .returned (.int .u64 (setI x f n y : Int)) ∧ Later w w' :=
  (set_c x f n y w hx hy).mono fun e w' ⟨he, m, hm⟩ => ⟨he, by rw [hm]; exact (Later.refl w).drewN m⟩
theorem rset_l (x : Nat) (f n : Int) (y : Nat) (w : World) (hx : x ≤ 18446744073709551615) (hy : y ≤ 18446744073709551615) :
    Calls Try.prog 21 #[.int .u64 x, .int .i64 f, .int .i64 n, .int .u64 y] w fun e w' => e = .returned (.int .u64 (setI x f n y : Int)) ∧ Later w w' :=
  (rset_c x f n y w hx hy).mono fun e w' ⟨he, hm⟩ => ⟨he, by rw [hm]; exact Later.refl w⟩

theorem RArr.two {k : IntKind} {v : Value} (h : RArr k 2 v) : ∃ f n : Int, v = .agg #[.int k f, .int k n] ∧ (Lit.int k f).wf = true ∧ (Lit.int k n).wf = true := by
  obtain ⟨zs, hl, rfl, hw⟩ := h
  match zs, hl with
  | [f, n], _ => exact ⟨f, n, rfl, hw f (by simp), hw n (by simp)⟩
theorem RInt.u64 {v : Value} (h : RInt .u64 v) : ∃ x : Nat, v = .int .u64 (x : Int) ∧ x ≤ 18446744073709551615 := by
  obtain ⟨a, rfl, w⟩ := h
  have hx := bounds_u64 w
  obtain ⟨x, rfl⟩ := Int.eq_ofNat_of_zero_le hx.1
  exact ⟨x, rfl, by omega⟩
theorem cell_rg {w b : World} {a : Addr} {v : Value} (h : w.cell? a = some v) (hb : Later w b) : ∀ p : Regrown, (rg b p).cell? a = some v := fun p => by
  have : a.block < w.heap.size := World.block_lt_of_cell? w a h
  rw [Below.cell (Later.trans hb (later_rg b p)) this]; exact h
theorem cell_later {w b : World} {a : Addr} {v : Value} (h : w.cell? a = some v) (hb : Later w b) : b.cell? a = some v := by
  have : a.block < w.heap.size := World.block_lt_of_cell? w a h
  rw [Below.cell hb this]; exact h

set_option maxHeartbeats 1000000 in
theorem numberBits_walk (v0 v1 v2 : Value) (w : World) (h0 : RInt .u64 v0) (h1 : RInt .u64 v1) (h2 : RArr .i64 2 v2) :
    Calls Try.prog 5 #[v0, v1, v2] w fun e w' => e = .returned (.bool true) ∧ Below w.heap.size w w' := by
  obtain ⟨x, rfl, hx⟩ := h0.u64
  obtain ⟨y, rfl, hy⟩ := h1.u64
  obtain ⟨f, n, rfl, wf, wn⟩ := h2.two
  clear h0 h1 h2 wf wn
  have hc0 : (w.alloc (.cells #[.int .i64 f, .int .i64 n] 30)).cell? ⟨w.heap.size, 0, none⟩ = some (.int .i64 f) := cell_of_row _ w.heap.size 0 _ _ (0, 0) (heap_alloc_new w _)
  have hc1 : (w.alloc (.cells #[.int .i64 f, .int .i64 n] 30)).cell? ⟨w.heap.size, 1, none⟩ = some (.int .i64 n) := cell_of_row _ w.heap.size 1 _ _ (0, 0) (heap_alloc_new w _)
  have hl0 : Later w (w.alloc (.cells #[.int .i64 f, .int .i64 n] 30)) := (Below.refl _ _).alloc (Nat.le_refl _) _
  have HL0 := hide hl0
  have Hc0 := hide hc0
  have Hc1 := hide hc1
  clear hl0 hc0 hc1
  go_enter Try.func5, Try.ntmps5
  go_wp2_with fail
  refine (alive_c _ _ (Nat.le_refl _)).mono ?_
  rintro e w1 ⟨rfl, hb1⟩
  have hr0 := cell_rg Hc0.out (Later.drew hb1)
  have hr1 := cell_rg Hc1.out (Later.drew hb1)
  have Hb1 := hide (HL0.out.trans (Later.drew hb1))
  clear hb1 Hc0 Hc1
  go_wp2_with fail
  refine wp_region_sched ((List.range 31).map fun i => (i, false)) (by kernel_rfl) (by kernel_rfl) (by kernel_rfl) (by kernel_rfl) ?_
  simp only [List.range, List.range.loop, List.map]
  repeat (refine wpS_mild rfl (fun K hK => ?_); go_simp; first | (refine hK _ ?_; clear hK K) | (apply Exists.intro; refine ⟨fun _ => ?_, hK _ ?_⟩; (first | (go_at_call 18; exact bits_l x f n _ hx) | (go_at_call 19; exact rbits_l x f n _ hx) | (go_at_call 20; exact set_l x f n y _ hx hy) | (go_at_call 21; exact rset_l x f n y _ hx hy)); clear hK K))
  refine wpS_nil (fun wx hwx => ?_)
  have F := hide (Hb1.out.trans hwx)
  clear hwx Hb1 hr0 hr1 HL0
  go_wp2
  go_ret
  exact ⟨rfl, F.out⟩
end Go.Proofs.Ytfkojecipbjdpaa
