import Derived.Test.YtcjdodkbnhkbiaaMAP
import Derived.Test.YtcjdodkbnhkbiaaMAL
namespace Go.Proofs.Ytcjdodkbnhkbiaa
open Go.ChangeShapes Go.WideShapes Go.ChangeAt Go.RowKit
set_option linter.unusedVariables false
set_option linter.unusedSimpArgs false

theorem cutL_all (l : List UInt8) (n : Int) (h0 : 0 ≤ n) (h : (l.length : Int) ≤ n) : cutL l n = l := by
  unfold cutL
  rw [if_neg (by omega), List.take_of_length_le (by omega)]
theorem cutL_len8 (l : List UInt8) (n : Int) : (cutL l n).length ≤ l.length ∧ l.take (cutL l n).length = cutL l n ∧ ((cutL l n).length = l.length ∨ ((cutL l n).length : Int) = if n < 0 then 0 else n) := by
  unfold cutL
  by_cases h : n < 0
  · rw [if_pos h, if_pos h]; simp
  · rw [if_neg h, if_neg h]
    refine ⟨by rw [List.length_take]; omega, ?_, ?_⟩
    · rw [List.length_take]
      by_cases h2 : n.toNat ≤ l.length
      · rw [Nat.min_eq_left h2]
      · rw [Nat.min_eq_right (by omega), List.take_of_length_le (Nat.le_refl _), List.take_of_length_le (by omega)]
    · rw [List.length_take]; omega
theorem mans_cut (op : Int) (at_ : Nat) (n pg bt : Int) (caching protect : Bool) : ∃ B s, B.length ≤ 1000 ∧ mansR (op, at_, n, pg, bt) caching protect = (cutL B n, s) ∧ mansR (op, at_, 1000, pg, bt) caching protect = (B, s) := by
  have h0 : cutL [] n = [] := by unfold cutL; split <;> simp
  unfold mansR
  simp only
  by_cases h1 : op ≠ 26 ∧ op ≠ 90
  · exact ⟨[], (5, 36, 0), by simp, by rw [if_pos h1, h0], by rw [if_pos h1]⟩
  by_cases h2 : bt = 3
  · exact ⟨[], (5, 57, 0), by simp, by rw [if_neg h1, if_pos h2, h0], by rw [if_neg h1, if_pos h2]⟩
  by_cases h3 : mpB pg = false
  · exact ⟨[], (5, 36, 0), by simp, by rw [if_neg h1, if_neg h2, if_pos h3, h0], by rw [if_neg h1, if_neg h2, if_pos h3]⟩
  have hl := mpL_len pg bt caching
  generalize mpL pg bt caching = L at *
  have hL : (mhead op L.length protect ++ L).length ≤ 40 := by
    rw [List.length_append]
    have : (mhead op L.length protect).length ≤ 8 := by unfold mhead; split <;> simp
    omega
  refine ⟨mhead op L.length protect ++ L, (0, 0, 0), by omega, by rw [if_neg h1, if_neg h2, if_neg h3], ?_⟩
  rw [if_neg h1, if_neg h2, if_neg h3, cutL_all _ 1000 (by omega) (by omega)]
set_option maxRecDepth 20000 in
set_option maxHeartbeats 4000000 in
theorem modeCuts_walk (hal : Alive8) (iA : IAns8) (c : Cmd) (caching protect : Bool) (w : World) (hc : OkC7 c) :
    Calls Try.prog 7 #[cval c, .bool caching, .bool protect] w fun e w' => e = .returned (.bool true) ∧ Below w.heap.size w w' := by
  obtain ⟨op, at_, n, pg, bt⟩ := c
  have HC := hide hc
  have HD : Hid (OkC7 (op, at_, 1000, pg, bt)) := ⟨hc.1, hc.2.1, (by decide : In64 1000), hc.2.2.2⟩
  clear hc
  have BX := hide (Box.new w 24 #[.int .i64 op, .int .u64 (at_ : Int), .int .i64 n, .int .i64 pg, .int .i64 bt])
  have LL := hide ((Later.refl w).alloc (.cells #[.int .i64 op, .int .u64 (at_ : Int), .int .i64 n, .int .i64 pg, .int .i64 bt] 24))
  go_enter Try.func7, Try.ntmps7
  go_wp2_with fail
  refine (hal _).mono ?_
  rintro e w1 ⟨rfl, hl⟩
  replace BX := hide (BX.out.later hl)
  replace LL := hide (LL.out.trans hl)
  clear hl
  have x0 := BX.out.cell 0
  have x1 := BX.out.cell 1
  have x2 := BX.out.cell 2
  have x3 := BX.out.cell 3
  have x4 := BX.out.cell 4
  have BD := hide (Box.new w1 24 #[.int .i64 op, .int .u64 (at_ : Int), .int .i64 1000, .int .i64 pg, .int .i64 bt])
  have BX2 := hide (BX.out.alloc (.cells #[.int .i64 op, .int .u64 (at_ : Int), .int .i64 1000, .int .i64 pg, .int .i64 bt] 24))
  replace LL := hide (LL.out.alloc (.cells #[.int .i64 op, .int .u64 (at_ : Int), .int .i64 1000, .int .i64 pg, .int .i64 bt] 24))
  have y0 := BX2.out.cell 0
  have y1 := BX2.out.cell 1
  have y2 := BX2.out.cell 2
  have y3 := BX2.out.cell 3
  have y4 := BX2.out.cell 4
  clear BX
  obtain ⟨B, s, hB, hm1, hm2⟩ := mans_cut op at_ n pg bt caching protect
  have HB := hide hB
  have HM1 := hide hm1
  have HM2 := hide hm2
  clear hB hm1 hm2
  go_wp2_with fail
  generalize w1.heap.size = gd at *
  generalize w1.alloc (.cells #[.int .i64 op, .int .u64 (at_ : Int), .int .i64 1000, .int .i64 pg, .int .i64 bt] 24) = w2 at *
  clear x0 x1 x2 x3 x4 y0 y1 y2 y3 y4
  refine (iA (op, at_, n, pg, bt) caching protect _ HC.out).mono ?_
  rintro e w3 ⟨vx, rfl, hl, hv⟩
  rw [HM1.out] at hv ⊢
  simp only at hv ⊢
  replace LL := hide (LL.out.trans hl)
  replace BD := hide (BD.out.later hl)
  replace BX2 := hide (BX2.out.later hl)
  have VX := hide hv
  clear hl hv
  go_wp2_with (refine wpList_newAS rfl rfl rfl rfl 9 8 rfl rfl (by simp) (by decide) (.tmp 21) (.tmp 22) (by simp) (by simp) (by simp) rfl rfl rfl _ s rfl rfl ?_)
  intro g9 w4 hB hl hg
  replace LL := hide (LL.out.trans hl)
  replace BD := hide (BD.out.later hl)
  replace BX2 := hide (BX2.out.later hl)
  replace VX := hide (VX.out.later hl)
  have S9 := hide hB
  clear hl hg hB
  have y0 := BD.out.cell 0
  have y1 := BD.out.cell 1
  have y2 := BD.out.cell 2
  have y3 := BD.out.cell 3
  have y4 := BD.out.cell 4
  go_wp2_with fail
  refine (iA (op, at_, 1000, pg, bt) caching protect _ HD.out).mono ?_
  rintro e w5 ⟨vy, rfl, hl, hv⟩
  rw [HM2.out] at hv ⊢
  simp only at hv ⊢
  replace LL := hide (LL.out.trans hl)
  replace BX2 := hide (BX2.out.later hl)
  replace VX := hide (VX.out.later hl)
  replace S9 := hide (S9.out.later hl)
  have VY := hide hv
  clear hl hv y0 y1 y2 y3 y4 BD
  go_wp2_with (refine wpList_newAS rfl rfl rfl rfl 11 10 rfl rfl (by simp) (by decide) (.tmp 28) (.tmp 29) (by simp) (by simp) (by simp) rfl rfl rfl _ s rfl rfl ?_)
  intro g11 w6 hB hl hg
  replace LL := hide (LL.out.trans hl)
  replace BX2 := hide (BX2.out.later hl)
  replace VX := hide (VX.out.later hl)
  replace VY := hide (VY.out.later hl)
  replace S9 := hide (S9.out.later hl)
  have S11 := hide hB
  clear hl hg hB
  have HL := hide (cutL_len8 B n)
  obtain ⟨lx, hlx⟩ : ∃ lx, lx = (cutL B n).length := ⟨_, rfl⟩
  obtain ⟨ly, hly⟩ : ∃ ly, ly = B.length := ⟨_, rfl⟩
  have VX2 := VX.out
  have VY2 := VY.out
  obtain ⟨_, ax, cx, rfl, hcx, _⟩ := VX2
  obtain ⟨_, ay, cy, rfl, hcy, _⟩ := VY2
  rw [← hlx] at VX HL hcx
  rw [← hly] at VY HL hcy HB
  rw [← hlx, ← hly]
  clear hlx hly
  have VZ : Hid (Bs w6 (.slice ay lx cy) (cutL B n)) := by
    have := VY.out.cut7 lx HL.out.1
    rw [HL.out.2.1] at this
    exact this
  have h1 : lx ≤ ly := HL.out.1
  have h2 : lx ≤ cy := Nat.le_trans h1 hcy
  have hle : decide ((ly : Int) < (lx : Int)) = false := by simp; omega
  go_wp2_with fail
  have hc := fun r => ((Later.refl w6).drew.trans (later_rg w6.drew r))
  have gx := fun r => (VX.out.later (hc r)).str
  have gy := fun r => (VZ.out.later (hc r)).str
  have s0 := fun r => (S9.out.later (hc r)).cell 0
  have s1 := fun r => (S9.out.later (hc r)).cell 1
  have s2 := fun r => (S9.out.later (hc r)).cell 2
  have t0 := fun r => (S11.out.later (hc r)).cell 0
  have t1 := fun r => (S11.out.later (hc r)).cell 1
  have t2 := fun r => (S11.out.later (hc r)).cell 2
  refine wp_region_sched ((List.range 20).map fun i => (i, false)) (by kernel_rfl) (by kernel_rfl) (by kernel_rfl) (by kernel_rfl) ?_
  simp only [List.range, List.range.loop, List.map, List.cons_append, List.nil_append]
  iterate 2 (refine wpS_mild rfl (fun K hK => ?_); go_simp; refine hK _ ?_; clear hK K)
  refine wpS_neqG rfl (by kernel_rfl) 28 _ (.tmp 30) (.tmp 31) rfl _ _ rfl rfl Try.guard_sense true (fun w => by rw [sense_eq s s w]; simp) ?_
  iterate 17 (refine wpS_mild rfl (fun K hK => ?_); go_simp; refine hK _ ?_; clear hK K)
  refine wpS_nil (fun wx hwx => ?_)
  replace LL := hide (LL.out.trans ((Later.refl w6).drew.trans hwx))
  replace BX2 := hide (BX2.out.later ((Later.refl w6).drew.trans hwx))
  clear hwx gx gy s0 s1 s2 t0 t1 t2 hc
  have y2 := BX2.out.cell 2
  by_cases hq : lx = ly
  · subst hq
    go_wp2
    go_ret
    exact ⟨by first | rfl | simp, LL.out⟩
  have hqb : ((lx : Int) == (ly : Int)) = false := by simp; omega
  have hmx : (lx : Int) = if n < 0 then 0 else n := by rcases HL.out.2.2 with h | h; exact absurd h hq; exact h
  clear hle
  by_cases hn : n < 0
  · obtain rfl : lx = 0 := by rw [if_pos hn] at hmx; omega
    have hq0 : ((0 : Int) == (ly : Int)) = false := by simp; omega
    have hq1 : ¬ (0 : Int) = (ly : Int) := by omega
    clear hmx hq hqb
    go_wp2
    go_ret
    exact ⟨by first | rfl | simp, LL.out⟩
  · rw [if_neg hn] at hmx
    subst hmx
    clear hn hq
    go_wp2
    go_ret
    exact ⟨by first | rfl | simp, LL.out⟩
end Go.Proofs.Ytcjdodkbnhkbiaa
