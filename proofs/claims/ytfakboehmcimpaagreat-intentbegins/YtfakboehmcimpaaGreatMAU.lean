import Derived.Test.YtfakboehmcimpaaGreatMAR
import Derived.Test.YtfakboehmcimpaaGreatMAH
import Derived.Test.YtfakboehmcimpaaGreatMAC
namespace Go.Proofs.YtfakboehmcimpaaGreat
open Go.ChangeShapes Go.WideShapes Go.ChangeAt Go.RowKit
set_option linter.unusedVariables false
set_option maxRecDepth 4000
set_option linter.unusedSimpArgs false
/-! What is asked of the landed job. -/
/-- 'x := v', v a job -/
theorem wpList_newJ {w : World} {ops : Array Oper} {rest : List Oper} {o1 o2 : Oper} {a : Act} {Q : Exit → Act → World → Prop} (hg1 : o1.guard = none) (hg2 : o2.guard = none) (h1 : o1.op = .alloc 42) (d : Tmp) (hd : o1.dst = some d) (hd' : d < a.tmps.size) (y : Operand) (hy' : y ≠ .tmp d) (h2 : o2.op = .store 42 (.tmp d) y)
    (c : Cmd) (len took : Int) (ar : Option Addr) (kr cr : Nat) (s : Sns) (hy : a.eval y = jval c len took ar kr cr s)
    (h : ∀ (g : Nat) (w' : World), Box w' g 42 (jc c len took ar kr cr s) → Later w w' → Hid (g = w.heap.size ∧ w' = w.alloc (.cells (jc c len took ar kr cr s).toArray 42)) → wpList Tryz.prog ops Q rest ((a.put (some d) (.pointer (some ⟨g, 0, none⟩))).put o2.dst undef) w') : wpList Tryz.prog ops Q (o1 :: o2 :: rest) a w :=
  wpList_new hg1 hg2 42 h1 d hd hd' y hy' h2 #[.int .i64 0, .int .u64 0, .int .i64 0, .int .i64 0, .int .i64 0, .int .i64 0, .int .i64 0, .slice none 0 0, .int .i64 0, .int .i64 0, .int .i64 0] (jc c len took ar kr cr s) Tryz.zero_job rfl hy (jc_one _ _ _ _ _ _ _) h
/-- 'x := v', v a unit -/
theorem wpList_newN {w : World} {ops : Array Oper} {rest : List Oper} {o1 o2 : Oper} {a : Act} {Q : Exit → Act → World → Prop} (hg1 : o1.guard = none) (hg2 : o2.guard = none) (h1 : o1.op = .alloc 32) (d : Tmp) (hd : o1.dst = some d) (hd' : d < a.tmps.size) (y : Operand) (hy' : y ≠ .tmp d) (h2 : o2.op = .store 32 (.tmp d) y)
    (ab : Option Addr) (n cb : Nat) (aD : Option Addr) (k cD : Nat) (p r l c : Bool) (am : Option Addr) (m cm : Nat) (s : Sns) (hy : a.eval y = uval ab n cb aD k cD p r l c am m cm s)
    (h : ∀ (g : Nat) (w' : World), Box w' g 32 (uc ab n cb aD k cD p r l c am m cm s) → Later w w' → Hid (g = w.heap.size ∧ w' = w.alloc (.cells (uc ab n cb aD k cD p r l c am m cm s).toArray 32)) → wpList Tryz.prog ops Q rest ((a.put (some d) (.pointer (some ⟨g, 0, none⟩))).put o2.dst undef) w') : wpList Tryz.prog ops Q (o1 :: o2 :: rest) a w :=
  wpList_new hg1 hg2 32 h1 d hd hd' y hy' h2 #[.slice none 0 0, .slice none 0 0, .bool false, .bool false, .bool false, .bool false, .slice none 0 0, .int .i64 0, .int .i64 0, .int .i64 0] (uc ab n cb aD k cD p r l c am m cm s) Tryz.zero_unit rfl hy (uc_one _ _ _ _ _ _ _ _ _ _ _ _ _ _) h
end Go.Proofs.YtfakboehmcimpaaGreat

namespace Go.Proofs.YtfakboehmcimpaaGreat
open Go.ChangeShapes Go.WideShapes Go.ChangeAt Go.RowKit
set_option linter.unusedVariables false
set_option maxRecDepth 4000
set_option linter.unusedSimpArgs false
/-! The landed job: which commands bring bytes; Start, Right. -/
theorem jselects_c (op : Int) (w : World) : Calls Tryz.prog 126 #[.int .i64 op] w fun e w' => e = .returned (.bool (modeOp op)) ∧ w' = w := by
  by_cases h1 : op = 21
  · subst h1
    go_enter Tryz.func126, Tryz.ntmps126
    go_wp2
    go_ret
    exact ⟨rfl, rfl⟩
  by_cases h2 : op = 85
  · subst h2
    go_enter Tryz.func126, Tryz.ntmps126
    go_wp2
    go_ret
    exact ⟨rfl, rfl⟩
  have e1 : (op == 21) = false := by simp [h1]
  have e2 : (op == 85) = false := by simp [h2]
  have HM : Hid (modeOp op = false) := by rw [Hid, modeOp, e1, e2]; rfl
  clear h1 h2
  go_enter Tryz.func126, Tryz.ntmps126
  go_wp2
  go_ret
  exact ⟨by rw [HM.out]; rfl, rfl⟩
/-- how many bytes each of a command's N stands for -/
def pszJ (c : Cmd) : Int := if classI c.1 = 2 ∨ (classI c.1 = 3 ∧ c.2.2.2.2 = 1) then 64 else if modeOp c.1 then 1 else 0
theorem start_psz (c : Cmd) : startL c = if pszJ c = 0 ∨ c.2.2.1 < 1 ∨ 4294967296 < c.2.2.1 then none else some (pszJ c * c.2.2.1) := by
  unfold startL pszJ
  by_cases h1 : c.2.2.1 < 1 ∨ 4294967296 < c.2.2.1
  · rw [if_pos h1, if_pos (.inr h1)]
  rw [if_neg h1]
  by_cases h2 : c.1 = 21 ∨ c.1 = 85
  · have hk : classI c.1 = 0 := by rcases h2 with h | h <;> rw [h] <;> decide
    have hm : modeOp c.1 = true := by rcases h2 with h | h <;> rw [h] <;> decide
    have hz : (if classI c.1 = 2 ∨ (classI c.1 = 3 ∧ c.2.2.2.2 = 1) then (64 : Int) else if modeOp c.1 then 1 else 0) = 1 := by
      rw [hk, if_neg (by rintro (h | ⟨h, -⟩) <;> exact absurd h (by decide)), hm]
      rfl
    rw [hz, if_pos h2, if_neg (by omega), Int.one_mul]
  · have hm : modeOp c.1 = false := by simpa [modeOp] using h2
    rw [if_neg h2]
    by_cases h3 : classI c.1 = 2 ∨ (classI c.1 = 3 ∧ c.2.2.2.2 = 1)
    · simp only [if_pos h3]
      rw [if_neg (by omega), Int.mul_comm]
    · simp only [if_neg h3]
      rw [hm]
      simp
theorem psz_three (c : Cmd) : pszJ c = 0 ∨ pszJ c = 1 ∨ pszJ c = 64 := by
  unfold pszJ
  split
  · exact .inr (.inr rfl)
  · split
    · exact .inr (.inl rfl)
    · exact .inl rfl
set_option maxHeartbeats 1000000 in
theorem psize_c (c : Cmd) (w : World) : Calls Tryz.prog 105 #[cval c] w fun e w' => e = .returned (.int .i64 (pszJ c)) ∧ Later w w' := by
  obtain ⟨op, at_, n, pg, bt⟩ := c
  have BX := hide (Box.new w 36 #[.int .i64 op, .int .u64 (at_ : Int), .int .i64 n, .int .i64 pg, .int .i64 bt])
  have LL := hide ((Later.refl w).alloc (.cells #[.int .i64 op, .int .u64 (at_ : Int), .int .i64 n, .int .i64 pg, .int .i64 bt] 36))
  have x0 := BX.out.cell 0
  have x4 := BX.out.cell 4
  have HR : Hid (pszJ (op, at_, n, pg, bt) = if classI op = 2 ∨ (classI op = 3 ∧ bt = 1) then 64 else if modeOp op then 1 else 0) := rfl
  go_enter Tryz.func105, Tryz.ntmps105
  go_wp2_with fail
  refine (class_c _ _).mono ?_
  rintro e w1 ⟨rfl, hw⟩
  have hw2 := hw.symm
  subst hw2
  clear hw
  generalize hk : classI op = k at *
  clear hk
  by_cases hk2 : k = 2
  · subst hk2
    replace HR : Hid (pszJ (op, at_, n, pg, bt) = 64) := by rw [Hid, HR.out, if_pos (.inl rfl)]
    go_wp2
    go_ret
    exact ⟨by rw [HR.out]; rfl, LL.out⟩
  have e2 : (k == 2) = false := by simp [hk2]
  by_cases hk3 : k = 3
  · subst hk3
    by_cases hb : bt = 1
    · subst hb
      replace HR : Hid (pszJ (op, at_, n, pg, 1) = 64) := by rw [Hid, HR.out, if_pos (.inr ⟨rfl, rfl⟩)]
      clear hk2
      go_wp2
      go_ret
      exact ⟨by rw [HR.out]; rfl, LL.out⟩
    · have eb : (bt == 1) = false := by simp [hb]
      replace HR : Hid (pszJ (op, at_, n, pg, bt) = if modeOp op then 1 else 0) := by rw [Hid, HR.out, if_neg (by omega)]
      clear hb hk2
      go_wp2_with fail
      refine (jselects_c _ _).mono ?_
      rintro e w2 ⟨rfl, hw⟩
      have hw2 := hw.symm
      subst hw2
      clear hw
      cases hm : modeOp op with
      | true =>
        rw [hm] at HR
        clear hm
        go_wp2
        go_ret
        exact ⟨by rw [HR.out]; rfl, LL.out⟩
      | false =>
        rw [hm] at HR
        clear hm
        go_wp2
        go_ret
        exact ⟨by rw [HR.out]; rfl, LL.out⟩
  have e3 : (k == 3) = false := by simp [hk3]
  replace HR : Hid (pszJ (op, at_, n, pg, bt) = if modeOp op then 1 else 0) := by rw [Hid, HR.out, if_neg (by omega)]
  clear hk2 hk3
  go_wp2_with fail
  refine (jselects_c _ _).mono ?_
  rintro e w2 ⟨rfl, hw⟩
  have hw2 := hw.symm
  subst hw2
  clear hw
  cases hm : modeOp op with
  | true =>
    rw [hm] at HR
    clear hm
    go_wp2
    go_ret
    exact ⟨by rw [HR.out]; rfl, LL.out⟩
  | false =>
    rw [hm] at HR
    clear hm
    go_wp2
    go_ret
    exact ⟨by rw [HR.out]; rfl, LL.out⟩
set_option maxRecDepth 20000 in
set_option maxHeartbeats 4000000 in
theorem jstart_c (c : Cmd) (w : World) (hc : OkC7 c) : Calls Tryz.prog 69 #[cval c] w fun e w' => e = .returned (.tuple #[(startJ c).1, .bool (startJ c).2]) ∧ Later w w' := by
  have HS := hide (start_psz c)
  have HT := hide (psz_three c)
  obtain ⟨op, at_, n, pg, bt⟩ := c
  have hn : In64 n := hc.2.2.1
  unfold In64 at hn
  clear hc
  have BX := hide ((Box.new w 36 #[.int .i64 op, .int .u64 (at_ : Int), .int .i64 n, .int .i64 pg, .int .i64 bt]).alloc (.cells #[.int .i64 0, .int .u64 0, .int .i64 0, .int .i64 0, .int .i64 0, .int .i64 0, .int .i64 0, .slice none 0 0, .int .i64 0, .int .i64 0, .int .i64 0] 42))
  have BJ : Hid (Box _ (w.heap.size + 1) 42 (jc (0, 0, 0, 0, 0) 0 0 none 0 0 (0, 0, 0))) := Box.new' (w.alloc (.cells #[.int .i64 op, .int .u64 (at_ : Int), .int .i64 n, .int .i64 pg, .int .i64 bt] 36)) 42 #[.int .i64 0, .int .u64 0, .int .i64 0, .int .i64 0, .int .i64 0, .int .i64 0, .int .i64 0, .slice none 0 0, .int .i64 0, .int .i64 0, .int .i64 0] _ rfl _ (by simp)
  have LL := hide (((Later.refl w).alloc (.cells #[.int .i64 op, .int .u64 (at_ : Int), .int .i64 n, .int .i64 pg, .int .i64 bt] 36)).alloc (.cells #[.int .i64 0, .int .u64 0, .int .i64 0, .int .i64 0, .int .i64 0, .int .i64 0, .int .i64 0, .slice none 0 0, .int .i64 0, .int .i64 0, .int .i64 0] 42))
  have x0 := BX.out.cell 0
  have x1 := BX.out.cell 1
  have x2 := BX.out.cell 2
  have x3 := BX.out.cell 3
  have x4 := BX.out.cell 4
  go_enter Tryz.func69, Tryz.ntmps69
  go_wp2_with fail
  generalize (w.alloc (.cells #[.int .i64 op, .int .u64 (at_ : Int), .int .i64 n, .int .i64 pg, .int .i64 bt] 36)).alloc (.cells #[.int .i64 0, .int .u64 0, .int .i64 0, .int .i64 0, .int .i64 0, .int .i64 0, .int .i64 0, .slice none 0 0, .int .i64 0, .int .i64 0, .int .i64 0] 42) = w1 at *
  obtain ⟨gx, hgx⟩ : ∃ gx, gx = w.heap.size := ⟨_, rfl⟩
  obtain ⟨gj, hgj⟩ : ∃ gj, gj = w.heap.size + 1 := ⟨_, rfl⟩
  rw [← hgj] at BJ ⊢
  rw [← hgx] at BX ⊢
  have HG : Hid (w.heap.size ≤ gj) := by rw [Hid]; omega
  clear hgx hgj x0 x1 x2 x3 x4
  refine (psize_c (op, at_, n, pg, bt) w1).mono ?_
  rintro e w2 ⟨rfl, hl⟩
  replace BX := hide (BX.out.later hl)
  replace BJ := hide (BJ.out.later hl)
  replace LL := hide (LL.out.trans hl)
  clear hl
  have x0 := BX.out.cell 0
  have x1 := BX.out.cell 1
  have x2 := BX.out.cell 2
  have x3 := BX.out.cell 3
  have x4 := BX.out.cell 4
  generalize pszJ (op, at_, n, pg, bt) = z at *
  by_cases hz : z = 0
  · subst hz
    have HR : Hid (startJ (op, at_, n, pg, bt) = (jval (0, 0, 0, 0, 0) 0 0 none 0 0 (0, 0, 0), false)) := by
      rw [Hid, startJ, HS.out, if_pos (.inl rfl)]
    clear HS HT
    go_wp2_with (refine wpList_storeU rfl 42 (.tmp 2) (.tmp 19) rfl gj 0 rfl (jc (0, 0, 0, 0, 0) 0 0 none 0 0 (0, 0, 0)) rfl Tryz.info_job (jc_one _ _ _ _ _ _ _) _ _ BJ.out (by simp) ?_)
    intro wz hz
    have BZ : Hid (Box wz gj 42 (jc (0, 0, 0, 0, 0) 0 0 none 0 0 (0, 0, 0))) := by rw [hz.out]; exact BJ.out.all _ rfl
    have LZ : Hid (Later w wz) := by rw [hz.out]; exact LL.out.setCells HG.out _ _
    clear hz
    go_wp2
    refine bodyPost_ret (results_cell_tmp rfl _ _ _ gj 0 rfl _ _ (load_job BZ.out rfl) rfl) rfl ⟨by rw [HR.out]; rfl, LZ.out⟩
  have ez : (z == 0) = false := by simp [hz]
  by_cases h1 : n < 1
  · have HR : Hid (startJ (op, at_, n, pg, bt) = (jval (0, 0, 0, 0, 0) 0 0 none 0 0 (0, 0, 0), false)) := by
      rw [Hid, startJ, HS.out, if_pos (.inr (.inl h1))]
    have e1 : decide (n < 1) = true := by simp; omega
    clear HS HT h1 hz
    go_wp2_with (refine wpList_storeU rfl 42 (.tmp 2) (.tmp 19) rfl gj 0 rfl (jc (0, 0, 0, 0, 0) 0 0 none 0 0 (0, 0, 0)) rfl Tryz.info_job (jc_one _ _ _ _ _ _ _) _ _ BJ.out (by simp) ?_)
    intro wz hz
    have BZ : Hid (Box wz gj 42 (jc (0, 0, 0, 0, 0) 0 0 none 0 0 (0, 0, 0))) := by rw [hz.out]; exact BJ.out.all _ rfl
    have LZ : Hid (Later w wz) := by rw [hz.out]; exact LL.out.setCells HG.out _ _
    clear hz
    go_wp2
    refine bodyPost_ret (results_cell_tmp rfl _ _ _ gj 0 rfl _ _ (load_job BZ.out rfl) rfl) rfl ⟨by rw [HR.out]; rfl, LZ.out⟩
  have e1 : decide (n < 1) = false := by simp; omega
  by_cases h2 : 4294967296 < n
  · have HR : Hid (startJ (op, at_, n, pg, bt) = (jval (0, 0, 0, 0, 0) 0 0 none 0 0 (0, 0, 0), false)) := by
      rw [Hid, startJ, HS.out, if_pos (.inr (.inr h2))]
    have e2 : decide (4294967296 < n) = true := by simp; omega
    clear HS HT h1 h2 hz
    go_wp2_with (refine wpList_storeU rfl 42 (.tmp 2) (.tmp 19) rfl gj 0 rfl (jc (0, 0, 0, 0, 0) 0 0 none 0 0 (0, 0, 0)) rfl Tryz.info_job (jc_one _ _ _ _ _ _ _) _ _ BJ.out (by simp) ?_)
    intro wz hz
    have BZ : Hid (Box wz gj 42 (jc (0, 0, 0, 0, 0) 0 0 none 0 0 (0, 0, 0))) := by rw [hz.out]; exact BJ.out.all _ rfl
    have LZ : Hid (Later w wz) := by rw [hz.out]; exact LL.out.setCells HG.out _ _
    clear hz
    go_wp2
    refine bodyPost_ret (results_cell_tmp rfl _ _ _ gj 0 rfl _ _ (load_job BZ.out rfl) rfl) rfl ⟨by rw [HR.out]; rfl, LZ.out⟩
  have e2 : decide (4294967296 < n) = false := by simp; omega
  have HR : Hid (startJ (op, at_, n, pg, bt) = (jval (op, at_, n, pg, bt) (z * n) 0 none 0 0 (0, 0, 0), true)) := by
    rw [Hid, startJ, HS.out, if_neg (by omega)]
  have hw64 : IntKind.i64.wrap (z * n) = z * n := by
    rcases HT.out with h | h | h <;> subst h <;> rw [IntKind.wrap_i64] <;> omega
  clear HS HT h1 h2 hz
  go_wp2_with (refine wpList_storeU rfl 42 (.tmp 2) (.tmp 25) rfl gj 0 rfl (jc (op, at_, n, pg, bt) (z * n) 0 none 0 0 (0, 0, 0)) rfl Tryz.info_job (jc_one _ _ _ _ _ _ _) _ _ BJ.out (by simp) ?_)
  intro wz hz
  have BZ : Hid (Box wz gj 42 (jc (op, at_, n, pg, bt) (z * n) 0 none 0 0 (0, 0, 0))) := by rw [hz.out]; exact BJ.out.all _ rfl
  have LZ : Hid (Later w wz) := by rw [hz.out]; exact LL.out.setCells HG.out _ _
  clear hz
  go_wp2
  refine bodyPost_ret (results_cell_tmp rfl _ _ _ gj 0 rfl _ _ (load_job BZ.out rfl) rfl) rfl ⟨by rw [HR.out]; rfl, LZ.out⟩
end Go.Proofs.YtfakboehmcimpaaGreat

namespace Go.Proofs.YtfakboehmcimpaaGreat
open Go.ChangeShapes Go.WideShapes Go.ChangeAt Go.RowKit
set_option linter.unusedVariables false
set_option maxRecDepth 4000
set_option linter.unusedSimpArgs false
/-! The landed cache: its inner functions has, check, end and lasting, and Right. -/
theorem chas_c {v : Value} {n : Nat} {F : List UInt8} {D : List Drt} (at_ : Int) (w : World) (h : Med w v n F D) :
    Calls Tryz.prog 130 #[v, .int .i64 at_] w fun e w' => e = .returned (.bool (decide (0 ≤ at_ ∧ at_ < n))) ∧ Later w w' := by
  obtain ⟨vb, vd, rfl, hb, hd, hok⟩ := h
  obtain ⟨ab, cb, rfl⟩ := hb.shape
  obtain ⟨k, hk⟩ : ∃ k, k = D.length := ⟨_, rfl⟩
  rw [← hk] at hd
  obtain ⟨aD, cD, rfl⟩ := hd.shape
  have L0 := hide ((Later.refl w).alloc (.cells #[.slice ab n cb, .slice aD k cD] 25))
  clear hb hd hk hok
  by_cases h1 : 0 ≤ at_
  · by_cases h2 : at_ < n
    · go_enter Tryz.func130, Tryz.ntmps130
      go_wp2
      go_ret
      exact ⟨ret_bool (by first | (simp; done) | (simp; omega) | (rw [Bool.eq_iff_iff]; simp; omega)), L0.out⟩
    · go_enter Tryz.func130, Tryz.ntmps130
      go_wp2
      go_ret
      exact ⟨ret_bool (by first | (simp; done) | (simp; omega) | (rw [Bool.eq_iff_iff]; simp; omega)), L0.out⟩
  · go_enter Tryz.func130, Tryz.ntmps130
    go_wp2
    go_ret
    exact ⟨ret_bool (by first | (simp; done) | (simp; omega) | (rw [Bool.eq_iff_iff]; simp; omega)), L0.out⟩
set_option maxRecDepth 20000 in
set_option maxHeartbeats 1000000 in
theorem cright_c {v : Value} {n : Nat} {F : List UInt8} {D : List Drt} (w : World) (h : Med w v n F D) :
    Calls Tryz.prog 112 #[v] w fun e w' => e = .returned (.bool (rightB n D)) ∧ Later w w' := by
  have HM := hide h
  obtain ⟨vb, vd, rfl, hb, hd, hok⟩ := h
  obtain ⟨ab, cb, rfl⟩ := hb.shape
  obtain ⟨k, hk⟩ : ∃ k, k = D.length := ⟨_, rfl⟩
  rw [← hk] at hd
  obtain ⟨aD, cD, rfl⟩ := hd.shape
  have hn := hb.2.1
  have hkm := hd.2.1
  unfold maxLen at hn hkm
  have HD := hide hd
  have HK := hide hk
  have HO := hide hok
  clear hb hd hk hok
  have BX0 := hide (Box.new w 25 #[.slice ab n cb, .slice aD k cD])
  have L0 := hide ((Later.refl w).alloc (.cells #[.slice ab n cb, .slice aD k cD] 25))
  by_cases h1 : 64 < n
  · go_enter Tryz.func112, Tryz.ntmps112
    go_wp2
    go_ret
    exact ⟨ret_bool (by simp [rightB]; omega), L0.out⟩
  by_cases h2 : 64 < k
  · go_enter Tryz.func112, Tryz.ntmps112
    go_wp2
    go_ret
    exact ⟨ret_bool (by have := HK.out; simp [rightB]; omega), L0.out⟩
  go_enter Tryz.func112, Tryz.ntmps112
  go_wp2_with fail
  go_loopw [18] (fun i wr => ∃ q : Nat, q ≤ k ∧ i = .int .i64 q ∧ Hid (∀ j (hj : j < D.length), j < q → 0 ≤ D[j].1 ∧ D[j].1 < n) ∧ Hid (Box wr w.heap.size 25 [.slice ab n cb, .slice aD k cD]) ∧ Hid (Later w wr)) (fun i _ => k - (intOf i).toNat)
  case atStart => exact ⟨0, Nat.zero_le _, rfl, fun _ _ h => by omega, BX0, L0⟩
  case round =>
    clear BX0 L0
    obtain ⟨q, hq, rfl, hall, hbx, hl⟩ := hrel
    by_cases hlt : q < k
    · obtain ⟨bD, oD, e, hr⟩ := (HD.out.later hl.out).lies? (by omega)
      subst e
      have hqD : q < D.length := by have := HK.out; omega
      have hz := HO.out D[q] (List.getElem_mem hqD)
      have hra := range_part hr (q * 65) 65
      rw [dv_part D q hqD HO.out] at hra
      have hin : Hid (∀ z, z = D[q].1 → (0 ≤ z ∧ z < n) → ∀ j (hj : j < D.length), j < q + 1 → 0 ≤ D[j].1 ∧ D[j].1 < n) := by
        intro z hz1 hz2 j hj hjq
        by_cases hjq' : j = q
        · subst hjq'; rw [← hz1]; exact hz2
        · exact hall.out j hj (by omega)
      have hno : Hid (∀ z, z = D[q].1 → ¬ (0 ≤ z ∧ z < n) → rightB n D = false) := by
        intro z hz1 hz2
        simp only [rightB, decide_eq_false_iff_not]
        intro ⟨_, _, h⟩
        exact hz2 (by rw [hz1]; exact h _ (List.getElem_mem hqD))
      have hra' := hide hra
      have hXl := hide hz.1
      generalize hzz : D[q].1 = z at *
      have HZ := hide hzz.symm
      have hzb := hz.2
      generalize D[q].2 = X at *
      clear hzz hz hall hr hra
      have hcl : Hid ((Value.int .i64 z :: bv X).length = 65) := by simp [Hid, bv_length, hXl.out]
      have hbox := hide (Box.new' wr 83 (#[.int .i64 0] ++ Array.replicate 64 (.int .u8 0)) _ rfl wr.heap.size rfl)
      have hbl1 := hide (hl.out.alloc (.cells (#[.int .i64 0] ++ Array.replicate 64 (.int .u8 0)) 83))
      have hszr := hl.out.size
      go_wp2_with (first
        | refine wpList_load_mid rfl 83 (.tmp 20) rfl bD (oD + q * 65) rfl (Value.int .i64 z :: bv X) _ hra'.out Tryz.underlying83 rfl (by rw [Tryz.info_dirty, hcl.out]) ?_
        | refine wpList_store_new rfl 83 (.tmp 4) (.tmp 21) rfl wr.heap.size (Value.int .i64 z :: bv X) rfl rfl _ hbox.out (by rw [hcl.out]; rfl) (by rw [hcl.out, Tryz.info_dirty]) (fun u hu => by rcases List.mem_cons.1 hu with rfl | h; rfl; exact bv_one X u h) w hbl1.out hszr ?_)
      intro w5 hb5 hl5 hk5 hs5
      have hkeep : ∀ j, j < wr.heap.size → w5.heap[j]? = wr.heap[j]? := fun j hj => by rw [hk5 j (by omega)]; exact Below.heap_alloc wr _ j hj
      have X5 : Hid (Box w5 w.heap.size 25 [.slice ab n cb, .slice (some ⟨bD, oD, none⟩) k cD]) := hbx.out.kept (hkeep _ hbx.out.lt)
      have L5 := hide hl5
      have e0 := hb5.cell 0
      have d0 := X5.out.cell 0
      have d1 := X5.out.cell 1
      clear hkeep hk5 hs5 hb5 hl5 hbx hl hbox hbl1 hszr hra'
      generalize wr.heap.size = G at *
      go_wp2_with fail
      refine (chas_c z w5 (HM.out.later L5.out)).mono ?_
      rintro e w6 ⟨rfl, hl6⟩
      have X6 := hide (X5.out.later hl6)
      have L6 := hide (L5.out.trans hl6)
      clear hl6 X5 L5 e0 d0 d1
      by_cases c : 0 ≤ z ∧ z < n
      · have hbc : decide (0 ≤ z ∧ z < (n : Int)) = true := by simpa using c
        rw [hbc]
        go_wp2
        go_roundw
        case rel => exact ⟨q + 1, by omega, by go_num, hin.out z rfl c, X6, L6⟩
        case measure => simp [intOf]; omega
      · have hbc : decide (0 ≤ z ∧ z < (n : Int)) = false := by simpa using c
        rw [hbc]
        go_wp2
        go_ret
        exact ⟨ret_bool (hno.out z rfl c).symm, L6.out⟩
    · have hd1 := hbx.out.cell 1
      go_wp2
      go_ret
      refine ⟨ret_bool ?_, hl.out⟩
      have hk := HK.out
      symm
      simp only [rightB, decide_eq_true_eq]
      refine ⟨by omega, by omega, fun d hd => ?_⟩
      obtain ⟨j, hj, rfl⟩ := List.mem_iff_getElem.1 hd
      exact hall.out j hj (by omega)
theorem cend_c (n : Nat) (at_ m : Int) (w : World) (hn : n ≤ 64) (ha : 0 ≤ at_) (ha' : at_ ≤ n) (hm : 0 ≤ m) (hm' : m ≤ 9223372036854775807) :
    Calls Tryz.prog 123 #[.int .i64 n, .int .i64 at_, .int .i64 m] w fun e w' => e = .returned (.int .i64 (flushTo n at_ m)) ∧ Later w w' := by
  have hw1 : IntKind.i64.wrap ((n : Int) - at_) = (n : Int) - at_ := by rw [IntKind.wrap_i64]; omega
  by_cases hm0 : m = 0
  · have hmb : (m == 0) = true := by simpa using hm0
    have hT : flushTo n at_ m = n := by unfold flushTo; rw [if_pos (.inl hm0)]
    rw [hT]
    clear hT hm0
    go_enter Tryz.func123, Tryz.ntmps123
    go_wp2
    go_ret
    exact ⟨rfl, Later.refl w⟩
  · have hmb : (m == 0) = false := by rw [beq_eq_false_iff_ne]; exact hm0
    by_cases hmn : (n : Int) - at_ < m
    · have hT : flushTo n at_ m = n := by unfold flushTo; rw [if_pos (.inr hmn)]
      rw [hT]
      clear hT hm0
      go_enter Tryz.func123, Tryz.ntmps123
      go_wp2
      go_ret
      exact ⟨rfl, Later.refl w⟩
    · have hT : flushTo n at_ m = at_ + m := by unfold flushTo; rw [if_neg (by omega)]
      have hw3 : IntKind.i64.wrap (at_ + m) = at_ + m := by rw [IntKind.wrap_i64]; omega
      rw [hT]
      clear hT hm0
      go_enter Tryz.func123, Tryz.ntmps123
      go_wp2
      go_ret
      exact ⟨rfl, Later.refl w⟩
set_option maxHeartbeats 1000000 in
theorem clasting_c {v : Value} {n : Nat} {F : List UInt8} {D : List Drt} (w : World) (h : Med w v n F D) (hn : n ≤ 64) :
    Calls Tryz.prog 131 #[v] w fun e w' => ∃ vb, e = .returned (.agg #[vb, .slice none 0 0]) ∧ Later w w' ∧ w'.ownsRow w.heap.size 80 64 vb n (bv F) := by
  obtain ⟨vb, vd, rfl, hb, hd, hok⟩ := h
  obtain ⟨ab, cb, rfl⟩ := hb.shape
  obtain ⟨k, hk⟩ : ∃ k, k = D.length := ⟨_, rfl⟩
  rw [← hk] at hd
  obtain ⟨aD, cD, rfl⟩ := hd.shape
  have HB := hide hb
  have HF : Hid (F.length = n * 64) := by have := hb.1; rwa [bv_length] at this
  clear hb hd hk hok
  have L0 : Hid (Later w ((w.alloc (.cells #[.slice ab n cb, .slice aD k cD] 25)).alloc (.cells #[.slice none 0 0, .slice none 0 0] 25))) := ((Later.refl w).alloc _).alloc _
  have X0 : Hid (Box ((w.alloc (.cells #[.slice ab n cb, .slice aD k cD] 25)).alloc (.cells #[.slice none 0 0, .slice none 0 0] 25)) w.heap.size 25 [.slice ab n cb, .slice aD k cD]) := (Box.new w 25 #[.slice ab n cb, .slice aD k cD]).alloc _
  have R0 : Hid (Box ((w.alloc (.cells #[.slice ab n cb, .slice aD k cD] 25)).alloc (.cells #[.slice none 0 0, .slice none 0 0] 25)) (w.heap.size + 1) 25 [.slice none 0 0, .slice none 0 0]) := Box.new' _ _ _ _ rfl _ (by simp)
  have hG0 : ((w.alloc (.cells #[.slice ab n cb, .slice aD k cD] 25)).alloc (.cells #[.slice none 0 0, .slice none 0 0] 25)).heap.size = w.heap.size + 2 := by simp
  go_enter Tryz.func131, Tryz.ntmps131
  go_wp2_with (at_make; refine wpList_make_of Tryz.elem_z64 rfl _ _ 22 rfl Tryz.underlying22 _ _ n rfl rfl rfl rfl ?c1 ?c2 _ (made64 n) ?_)
  case c1 => omega
  case c2 => unfold maxLen; omega
  generalize ((w.alloc (.cells #[.slice ab n cb, .slice aD k cD] 25)).alloc (.cells #[.slice none 0 0, .slice none 0 0] 25)) = w1 at *
  rintro w2 ho2 hl2
  have L2 : Hid (Later w w2) := L0.out.trans hl2
  have X2 := hide (X0.out.later hl2)
  have R2 := hide (R0.out.later hl2)
  have H2 := hide (HB.out.later L2.out)
  have O2 := hide ho2
  have hbel : Hid (Below (w.heap.size + 2) w1 w2) := by unfold Hid; rw [← hG0]; exact hl2
  have d0 := X2.out.cell 0
  have d1 := X2.out.cell 1
  clear ho2 hl2 X0 R0
  go_wp2_with (refine wpList_copy_rw Tryz.underlying22 Tryz.info_block rfl (.tmp 8) (.tmp 10) rfl _ n n rfl _ n (bv F) rfl H2.out (bv_one _) (Nat.le_refl _) (w.heap.size + 2) (w.heap.size + 2) n n 0 _ O2.out ?g1 (.inr rfl) w1 hbel.out (Nat.le_refl _) ?_)
  case g1 => omega
  intro w3 ho3 hb3 hk3 hs3
  rw [laid_bv, over_full _ _ (by simp; have := HF.out; omega)] at ho3
  have O3 : Hid (w3.ownsRow w.heap.size 80 64 (.slice (some ⟨w.heap.size + 2, 0, none⟩) n n) n (bv F)) := owns_rebase ho3 (by omega)
  have L3 : Hid (Later w w3) := L0.out.trans (show Later w1 w3 by unfold Later; rw [hG0]; exact hb3)
  have R3 := hide (R2.out.kept (hk3 (w.heap.size + 1) (by omega)))
  clear ho3 hb3 hk3 hs3 d0 d1 X2 R2 H2 O2 L2 hbel
  have r0 := R3.out.cell 0
  have r1 := R3.out.cell 1
  have f0 := R3.out.frozen 0
  have f1 := R3.out.frozen 1
  have hw1 : Hid (Box ((w3.setCell ⟨w.heap.size + 1, 0, none⟩ (.slice (some ⟨w.heap.size + 2, 0, none⟩) n n)).setCell ⟨w.heap.size + 1, 1, none⟩ (.slice none 0 0)) (w.heap.size + 1) 25 [.slice (some ⟨w.heap.size + 2, 0, none⟩) n n, .slice none 0 0]) := (R3.out.set 0 _).set 1 _
  have hne : ∀ g, g ≠ w.heap.size + 1 → ((w3.setCell ⟨w.heap.size + 1, 0, none⟩ (.slice (some ⟨w.heap.size + 2, 0, none⟩) n n)).setCell ⟨w.heap.size + 1, 1, none⟩ (.slice none 0 0)).heap[g]? = w3.heap[g]? := fun g hg => by
    rw [heap_setCell_other _ _ _ _ (by simpa using hg), heap_setCell_other _ _ _ _ (by simpa using hg)]
  have N1 := hide (owns_kept O3.out fun g hg => hne g (fun e => box_ne_own R3.out O3.out (by decide) g hg e.symm))
  have N6 : Hid (Later w ((w3.setCell ⟨w.heap.size + 1, 0, none⟩ (.slice (some ⟨w.heap.size + 2, 0, none⟩) n n)).setCell ⟨w.heap.size + 1, 1, none⟩ (.slice none 0 0))) := (L3.out.setCell (by simp) _).setCell (by simp) _
  clear hne R3 O3 L3
  go_wp2
  exact bodyPost_ret (results_cell1 rfl _ _ _ (w.heap.size + 1) 0 rfl (.agg #[.slice (some ⟨w.heap.size + 2, 0, none⟩) n n, .slice none 0 0]) (run_loadVar_mid _ _ _ _ [.slice (some ⟨w.heap.size + 2, 0, none⟩) n n, .slice none 0 0] _ hw1.out.range Tryz.underlying25 rfl (by kernel_rfl))) rfl ⟨_, rfl, N6.out, N1.out⟩
end Go.Proofs.YtfakboehmcimpaaGreat
