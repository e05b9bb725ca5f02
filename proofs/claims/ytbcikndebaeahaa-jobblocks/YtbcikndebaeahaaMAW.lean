import Derived.Test.YtbcikndebaeahaaMAV
import Derived.Test.YtbcikndebaeahaaMAL
namespace Go.Proofs.Ytbcikndebaeahaa
open Go.ChangeShapes Go.WideShapes Go.ChangeAt Go.RowKit
set_option linter.unusedVariables false
set_option maxRecDepth 4000
set_option linter.unusedSimpArgs false
/-! The landed cache: writeThrough, writeCached, Write. -/
theorem inR_zero {D : List Drt} : D.filter (inR 0 0) = [] ∧ D.filter (fun d => !inR 0 0 d) = D := by
  constructor
  · rw [List.filter_eq_nil_iff]
    intro d _
    simp only [inR, decide_eq_true_eq]; omega
  · rw [List.filter_eq_self]
    intro d _
    simp only [inR, Bool.not_eq_true', decide_eq_false_iff_not]; omega
theorem run_buildD (z : Int) (X : List UInt8) (hX : X.length = 64) (w : World) : Sem.run Try.prog (Instr.build 79 #[(0, .int .i64 z), (1, .agg (bv X).toArray)]) w = .ok (.agg (Value.int .i64 z :: bv X).toArray) w := by
  first
    | (have h := dirty_build (.int .i64 z) (bv X) zc65 (by simp) (by rw [bv_length, hX])
       unfold Instr.build
       go_simp
       done)
    | (have h := dirty_build (.int .i64 z) (bv X) Try.zeroCells79 (by kernel_rfl) (by rw [bv_length, hX])
       unfold Instr.build
       go_simp
       done)
    | (have h := dirty_build (.int .i64 z) (bv X) zc65 (by simp) (by rw [bv_length, hX])
       have hz : Try.zeroCells79 = zc65 := by kernel_rfl
       unfold Instr.build
       go_simp
       rw [hz, h]
       rfl)
/-- a cached write as a literal -/
theorem wpList_buildD {w : World} {ops : Array Oper} {rest : List Oper} {o : Oper} {a : Act} {Q : Exit → Act → World → Prop} (hgd : o.guard = none) (x y : Operand) (ho : o.op = .build 79 #[(0, x), (1, y)]) (z : Int) (X : List UInt8) (hX : X.length = 64)
    (hx : a.eval x = .int .i64 z) (hy : a.eval y = .agg (bv X).toArray) (h : wpList Try.prog ops Q rest (a.put o.dst (.agg (Value.int .i64 z :: bv X).toArray)) w) : wpList Try.prog ops Q (o :: rest) a w := by
  refine wpList_plain hgd fun K hK => ?_
  have hrun := run_buildD z X hX w
  unfold Go.Oper.wp
  simp [execOp, ho, hx, hy, hrun, Result.andThen]
  exact hK _ _ h
/-- a medium in new memory is laid into the variable of the result -/
theorem med_ret {w w8 : World} {R n c3 m6 c6 : Nat} {a3 a6 : Option Addr} {xs ys : List Value} (hR : w.heap.size ≤ R) (hB : Box w8 R 25 [.slice none 0 0, .slice none 0 0]) (hl : Later w w8)
    (h1 : w8.ownsRow w.heap.size 58 64 (.slice a3 n c3) n xs) (h2 : w8.ownsRow w.heap.size 79 65 (.slice a6 m6 c6) m6 ys) :
    Box ((w8.setCell ⟨R, 0, none⟩ (.slice a3 n c3)).setCell ⟨R, 1, none⟩ (.slice a6 m6 c6)) R 25 [.slice a3 n c3, .slice a6 m6 c6] ∧ Later w ((w8.setCell ⟨R, 0, none⟩ (.slice a3 n c3)).setCell ⟨R, 1, none⟩ (.slice a6 m6 c6)) ∧
    ((w8.setCell ⟨R, 0, none⟩ (.slice a3 n c3)).setCell ⟨R, 1, none⟩ (.slice a6 m6 c6)).ownsRow w.heap.size 58 64 (.slice a3 n c3) n xs ∧ ((w8.setCell ⟨R, 0, none⟩ (.slice a3 n c3)).setCell ⟨R, 1, none⟩ (.slice a6 m6 c6)).ownsRow w.heap.size 79 65 (.slice a6 m6 c6) m6 ys := by
  have hne : ∀ g, g ≠ R → ((w8.setCell ⟨R, 0, none⟩ (.slice a3 n c3)).setCell ⟨R, 1, none⟩ (.slice a6 m6 c6)).heap[g]? = w8.heap[g]? := fun g hg => by
    rw [heap_setCell_other _ _ _ _ (by simpa using hg), heap_setCell_other _ _ _ _ (by simpa using hg)]
  exact ⟨(hB.set 0 _).set 1 _, (hl.setCell (by simpa using hR) _).setCell (by simpa using hR) _, owns_kept h1 fun g hg => hne g (fun e => box_ne_own hB h1 (by decide) g hg e.symm), owns_kept h2 fun g hg => hne g (fun e => box_ne_own hB h2 (by decide) g hg e.symm)⟩
set_option maxRecDepth 20000 in
set_option maxHeartbeats 1000000 in
theorem cwt_i {v : Value} {n : Nat} {F : List UInt8} {D : List Drt} (z : Nat) (X : List UInt8) (w : World) (h : Med w v n F D) (hn : n ≤ 64) (hk64 : D.length ≤ 64) (hfit : Fit n D) (hz : z < n) (hX : X.length = 64) :
    Calls Try.prog 79 #[v, .int .i64 z, .agg (bv X).toArray] w fun e w' => ∃ vb vd, e = .returned (.agg #[vb, vd]) ∧ Later w w' ∧
      w'.ownsRow w.heap.size 58 64 vb n (bv (over (app F (D.filter (inR z (z + 1)))) (z * 64) X)) ∧ w'.ownsRow w.heap.size 79 65 vd (D.filter fun d => !inR z (z + 1) d).length (dv (D.filter fun d => !inR z (z + 1) d)) := by
  have HM := hide h
  obtain ⟨vb, vd, rfl, hb, hd, hok⟩ := h
  obtain ⟨ab, cb, rfl⟩ := hb.shape
  obtain ⟨k, hk⟩ : ∃ k, k = D.length := ⟨_, rfl⟩
  rw [← hk] at hd
  obtain ⟨aD, cD, rfl⟩ := hd.shape
  have HFl : Hid (F.length = n * 64) := by have := hb.1; rwa [bv_length] at this
  have HX := hide hX
  have HF := hide hfit
  have HK := hide hk64
  clear hb hd hk hok hX hfit hk64
  go_enter Try.func79, Try.ntmps79
  go_wp2_with fail
  refine (cflush_i (z : Int) ((z : Int) + 1) _ (HM.out.later ((((Later.refl w).alloc _).alloc _).alloc _)) hn HK.out HF.out).mono ?_
  rintro e w3 ⟨vb, vd, rfl, hl3, h1, h2⟩
  have L3 : Hid (Later w w3) := Later.trans ((((Later.refl w).alloc _).alloc _).alloc _) hl3
  have BR3 : Hid (Box w3 (w.heap.size + 1 + 1) 25 [.slice none 0 0, .slice none 0 0]) := Box.later (Box.new' _ _ _ _ rfl _ (by simp)) hl3
  have BD3 : Hid (Box w3 (w.heap.size + 1) 58 (bv X)) := Box.later ((Box.new' _ _ _ _ (by simp) _ (by simp)).alloc _) hl3
  have O1 : Hid (w3.ownsRow w.heap.size 58 64 vb n (bv (app F (D.filter (inR z (z + 1)))))) := owns_rebase h1 (by simp; omega)
  have O2 : Hid (w3.ownsRow w.heap.size 79 65 vd (D.filter fun d => !inR z (z + 1) d).length (dv (D.filter fun d => !inR z (z + 1) d))) := owns_rebase h2 (by simp; omega)
  have hFl1 : Hid ((app F (D.filter (inR z (z + 1)))).length = n * 64) := app_length n _ F HFl.out fun x hx => HF.out x (List.mem_filter.1 hx).1
  clear hl3 h1 h2
  generalize hF1 : app F (D.filter (inR z (z + 1))) = F1 at *
  generalize hD1 : (D.filter fun d => !inR z (z + 1) d) = D1 at *
  have HF1 := hide hF1
  have HD1 := hide hD1
  clear hF1 hD1
  obtain ⟨m6, hm6⟩ : ∃ m6, m6 = D1.length := ⟨_, rfl⟩
  rw [← hm6] at O2
  have HM6 := hide hm6
  clear hm6
  obtain ⟨g, c3, e, hg⟩ := owns_head O1.out (by omega)
  subst e
  obtain ⟨a6, c6, rfl⟩ := (Rw.of_owns O2.out).shape
  have BA := hide (Box.new w3 25 #[.slice (some ⟨g, 0, none⟩) n c3, .slice a6 m6 c6])
  have BR4 := hide (BR3.out.alloc (.cells #[.slice (some ⟨g, 0, none⟩) n c3, .slice a6 m6 c6] 25))
  have BD4 := hide (BD3.out.alloc (.cells #[.slice (some ⟨g, 0, none⟩) n c3, .slice a6 m6 c6] 25))
  have P1 := hide (O1.out.alloc (.cells #[.slice (some ⟨g, 0, none⟩) n c3, .slice a6 m6 c6] 25))
  have P2 := hide (O2.out.alloc (.cells #[.slice (some ⟨g, 0, none⟩) n c3, .slice a6 m6 c6] 25))
  have L4 := hide (L3.out.alloc (.cells #[.slice (some ⟨g, 0, none⟩) n c3, .slice a6 m6 c6] 25))
  have hGa : w.heap.size + 1 + 1 < w3.heap.size := BR3.out.lt
  have q0 := BA.out.cell 0
  have q1 := BA.out.cell 1
  have hth : Hid ((w3.alloc (.cells #[.slice (some ⟨g, 0, none⟩) n c3, .slice a6 m6 c6] 25)).there g (z * 64) (bv X).toArray.size) := by
    have := owns_there P1.out (z * 64) 64 (by omega)
    unfold Hid
    simpa [bv_length, HX.out] using this
  have hdt := hide BD4.out.range
  have hnew := (owns_setCells P1.out (bv X) (z * 64) (by rw [bv_length, HX.out]; omega)).1
  rw [← bv_over] at hnew
  have ho1 : ∀ b t xs, t ≠ 58 → Box (w3.alloc (.cells #[.slice (some ⟨g, 0, none⟩) n c3, .slice a6 m6 c6] 25)) b t xs → Box ((w3.alloc (.cells #[.slice (some ⟨g, 0, none⟩) n c3, .slice a6 m6 c6] 25)).setCells g (z * 64) (bv X)) b t xs := fun b t xs hne hB => by
    unfold Box
    rw [heap_setCells_other _ g b (box_ne_own hB P1.out hne g rfl)]
    exact hB
  have N1 := hide hnew
  have N2 := hide (owns_kept P2.out fun j hj => heap_setCells_other (w3.alloc (.cells #[.slice (some ⟨g, 0, none⟩) n c3, .slice a6 m6 c6] 25)) g j (fun e => own_ne_own P1.out P2.out (by decide) g rfl (by rw [← e]; exact hj)) (bv X) (z * 64))
  have NA := hide (ho1 _ _ _ (by decide) BA.out)
  have NR := hide (ho1 _ _ _ (by decide) BR4.out)
  have NL := hide (L4.out.setCells hg (bv X) (z * 64))
  have HE := hide (med_ret (by omega) NR.out NL.out N1.out N2.out)
  have n0 := NA.out.cell 0
  have n1 := NA.out.cell 1
  have r0 := NR.out.cell 0
  have r1 := NR.out.cell 1
  have f0 := NR.out.frozen 0
  have f1 := NR.out.frozen 1
  clear BR3 BD3 O1 O2 L3 hnew ho1 N1 N2 NA NR NL BA BR4 P1 P2 L4
  go_wp2_with (first
    | refine wpList_load_mid rfl 58 (.tmp 5) rfl (w.heap.size + 1) 0 rfl (bv X) _ hdt.out Try.underlying58 rfl (by rw [Try.info_block, bv_length, HX.out]) ?_
    | refine wpList_store_mid rfl 58 (.tmp 17) (.tmp 16) rfl g (z * 64) (bv X).toArray rfl rfl hth.out (by rw [Try.info_block]; simp [bv_length, HX.out]) (all_oneCell_toArray (bv_one _)) ?_)
  refine bodyPost_ret (results_cell1 rfl _ _ _ (w.heap.size + 1 + 1) 0 rfl (.agg #[.slice (some ⟨g, 0, none⟩) n c3, .slice a6 m6 c6]) (run_loadVar_mid _ _ _ _ [.slice (some ⟨g, 0, none⟩) n c3, .slice a6 m6 c6] _ HE.out.1.range Try.underlying25 rfl (by kernel_rfl))) rfl ⟨_, _, rfl, HE.out.2.1, by rw [HF1.out]; exact HE.out.2.2.1, ?_⟩
  rw [HD1.out, ← HM6.out]
  exact HE.out.2.2.2
/-- what the writes that are cached become -/
def wcF (n : Nat) (F : List UInt8) (D : List Drt) : List UInt8 := if D.length = 64 then app F (D.filter (inR 0 n)) else F
def wcD (n : Nat) (D : List Drt) : List Drt := if D.length = 64 then D.filter (fun d => !inR 0 n d) else D
set_option maxRecDepth 20000 in
set_option maxHeartbeats 1000000 in
theorem cwc_i {v : Value} {n : Nat} {F : List UInt8} {D : List Drt} (z : Nat) (X : List UInt8) (w : World) (h : Med w v n F D) (hn : n ≤ 64) (hk64 : D.length ≤ 64) (hfit : Fit n D) (hz : z < n) (hX : X.length = 64) :
    Calls Try.prog 80 #[v, .int .i64 z, .agg (bv X).toArray] w fun e w' => ∃ vb vd, e = .returned (.agg #[vb, vd]) ∧ Later w w' ∧
      w'.ownsRow w.heap.size 58 64 vb n (bv (wcF n F D)) ∧ w'.ownsRow w.heap.size 79 65 vd (wcD n D ++ [((z : Int), X)]).length (dv (wcD n D ++ [((z : Int), X)])) := by
  have HM := hide h
  obtain ⟨vb, vd, rfl, hb, hd, hok⟩ := h
  obtain ⟨ab, cb, rfl⟩ := hb.shape
  obtain ⟨k, hk⟩ : ∃ k, k = D.length := ⟨_, rfl⟩
  rw [← hk] at hd
  obtain ⟨aD, cD, rfl⟩ := hd.shape
  have HX := hide hX
  have HF := hide hfit
  have HKL := hide hk64
  have HK := hide hk
  have hkb : k ≤ 64 := by omega
  have HDl : Hid ((wcD n D).length ≤ 64) := by
    unfold Hid wcD
    split
    · exact Nat.le_trans (List.length_filter_le _ _) hk64
    · exact hk64
  have hcl : Hid ((Value.int .i64 (z : Int) :: bv X).length = 65) := by simp [Hid, bv_length, HX.out]
  have hone : Hid (∀ u ∈ (Value.int .i64 (z : Int) :: bv X), u.oneCell' = true) := fun u hu => by rcases List.mem_cons.1 hu with rfl | h; rfl; exact bv_one X u h
  clear hb hd hk hok hX hfit hk64
  by_cases hk6 : k = 64
  · have hkq : ((k : Int) == 64) = true := by simp; omega
    have HL : Hid (D.length = 64) := by have := HK.out; unfold Hid; omega
    clear hk6
    go_enter Try.func80, Try.ntmps80
    go_wp2_with fail
    refine (cflush_i 0 (n : Int) _ (HM.out.later ((((Later.refl w).alloc _).alloc _).alloc _)) hn HKL.out HF.out).mono ?_
    rintro e w3 ⟨vb, vd, rfl, hl3, h1, h2⟩
    have L3 : Hid (Later w w3) := Later.trans ((((Later.refl w).alloc _).alloc _).alloc _) hl3
    have BR3 : Hid (Box w3 (w.heap.size + 1 + 1) 25 [.slice none 0 0, .slice none 0 0]) := Box.later (Box.new' _ _ _ _ rfl _ (by simp)) hl3
    have BD3 : Hid (Box w3 (w.heap.size + 1) 58 (bv X)) := Box.later ((Box.new' _ _ _ _ (by simp) _ (by simp)).alloc _) hl3
    have O1 : Hid (w3.ownsRow w.heap.size 58 64 vb n (bv (wcF n F D))) := by
      have := owns_rebase (B' := w.heap.size) h1 (by simp; omega)
      rw [show app F (D.filter (inR 0 (n : Int))) = wcF n F D from by unfold wcF; rw [if_pos HL.out]] at this
      exact this
    have O2 : Hid (w3.ownsRow w.heap.size 79 65 vd (wcD n D).length (dv (wcD n D))) := by
      have := owns_rebase (B' := w.heap.size) h2 (by simp; omega)
      rw [show (D.filter fun d => !inR 0 (n : Int) d) = wcD n D from by unfold wcD; rw [if_pos HL.out]] at this
      exact this
    clear hl3 h1 h2
    generalize hF1 : wcF n F D = F1 at *
    generalize hD1 : wcD n D = D1 at *
    have HF1 := hide hF1
    have HD1 := hide hD1
    clear hF1 hD1
    obtain ⟨m6, hm6⟩ : ∃ m6, m6 = D1.length := ⟨_, rfl⟩
    rw [← hm6] at O2
    have hm64 : m6 ≤ 64 := by rw [hm6]; exact HDl.out
    have HM6 := hide hm6
    clear hm6
    obtain ⟨a3, c3, rfl⟩ := (Rw.of_owns O1.out).shape
    obtain ⟨a6, c6, rfl⟩ := (Rw.of_owns O2.out).shape
    have BA := hide (Box.new w3 25 #[.slice a3 n c3, .slice a6 m6 c6])
    have BR4 := hide (BR3.out.alloc (.cells #[.slice a3 n c3, .slice a6 m6 c6] 25))
    have BD4 := hide (BD3.out.alloc (.cells #[.slice a3 n c3, .slice a6 m6 c6] 25))
    have P1 := hide (O1.out.alloc (.cells #[.slice a3 n c3, .slice a6 m6 c6] 25))
    have P2 := hide (O2.out.alloc (.cells #[.slice a3 n c3, .slice a6 m6 c6] 25))
    have L4 := hide (L3.out.alloc (.cells #[.slice a3 n c3, .slice a6 m6 c6] 25))
    have hGa : w.heap.size + 1 + 1 < w3.heap.size := BR3.out.lt
    have q1 := BA.out.cell 1
    have hdt := hide BD4.out.range
    clear BR3 BD3 O1 O2 L3
    go_wp2_with (first
      | refine wpList_load_mid rfl 58 (.tmp 5) rfl (w.heap.size + 1) 0 rfl (bv X) _ hdt.out Try.underlying58 rfl (by rw [Try.info_block, bv_length, HX.out]) ?_
      | refine wpList_buildD rfl (.tmp 21) (.tmp 22) rfl (z : Int) X HX.out rfl rfl ?_
      | refine wpList_buildOne Try.elem_dirty Try.underlying23 z65_size (by decide) (by decide) rfl (.tmp 23) rfl (Value.int .i64 (z : Int) :: bv X) rfl hcl.out ?_)
    generalize (w3.alloc (.cells #[.slice a3 n c3, .slice a6 m6 c6] 25)) = w4 at *
    generalize w3.heap.size = GA at *
    intro w6 hr6 hl6 hs6
    have BA6 := hide (BA.out.later hl6)
    have R6 := hide (BR4.out.later hl6)
    have Q1 := hide (owns_later P1.out hl6)
    have Q2 := hide (owns_later P2.out hl6)
    have L6 := hide (L4.out.trans hl6)
    have S6 := hide hr6
    have hz6 := L6.out.size
    clear hr6 hl6 hs6 BA BR4 BD4 P1 P2 L4 q1 hdt
    go_wp2_with (at_builtin; refine wpList_append_rw Try.elem_dirty Try.underlying23 z65_size (by decide) rfl (.tmp 20) (.tmp 24) rfl w.heap.size _ _ _ rfl Q2.out _ 1 (Value.int .i64 (z : Int) :: bv X) rfl S6.out hone.out ?m1 ?m2 hz6 w L6.out ?_)
    case m1 => omega
    case m2 => unfold maxLen; omega
    intro v7 w7 ho7 hb7 hg7
    have BA7 := hide (box_grown BA6.out Q2.out (by decide) hg7)
    have R7 := hide (box_grown R6.out Q2.out (by decide) hg7)
    have B7 : Hid (w7.ownsRow w.heap.size 58 64 (.slice a3 n c3) n (bv F1)) := owns_kept Q1.out fun g hg => hg7.block g (Q1.out.lt g hg).2 (fun e => own_ne_own Q1.out Q2.out (by decide) g hg e.symm)
    have D7 : Hid (w7.ownsRow w.heap.size 79 65 v7 (m6 + 1) (dv (D1 ++ [((z : Int), X)]))) := by
      unfold Hid
      rw [dv_append]
      simpa [dv] using ho7
    have L7 : Hid (Later w w7) := hb7
    clear ho7 hb7 hg7 BA6 R6 Q1 Q2 L6 S6 hz6
    obtain ⟨a7, c7, rfl⟩ := (Rw.of_owns D7.out).shape
    have u0 := BA7.out.cell 0
    have u1 := BA7.out.cell 1
    have uf := BA7.out.frozen 1
    have NA := hide (BA7.out.set 1 (.slice a7 (m6 + 1) c7))
    have NR := hide (R7.out.other ⟨GA, 1, none⟩ (.slice a7 (m6 + 1) c7) (by simp; omega))
    have N1 : Hid ((w7.setCell ⟨GA, 1, none⟩ (.slice a7 (m6 + 1) c7)).ownsRow w.heap.size 58 64 (.slice a3 n c3) n (bv F1)) := owns_kept B7.out fun g hg => heap_setCell_other _ _ _ _ (fun e => box_ne_own BA7.out B7.out (by decide) g hg e.symm)
    have N2 : Hid ((w7.setCell ⟨GA, 1, none⟩ (.slice a7 (m6 + 1) c7)).ownsRow w.heap.size 79 65 (.slice a7 (m6 + 1) c7) (m6 + 1) (dv (D1 ++ [((z : Int), X)]))) := owns_kept D7.out fun g hg => heap_setCell_other _ _ _ _ (fun e => box_ne_own BA7.out D7.out (by decide) g hg e.symm)
    have NL := hide (L7.out.setCell (a := ⟨GA, 1, none⟩) (by simp; omega) (.slice a7 (m6 + 1) c7))
    have HE := hide (med_ret (by omega) NR.out NL.out N1.out N2.out)
    have n0 := NA.out.cell 0
    have n1 := NA.out.cell 1
    have r0 := NR.out.cell 0
    have r1 := NR.out.cell 1
    have f0 := NR.out.frozen 0
    have f1 := NR.out.frozen 1
    clear N1 N2 NA NR NL BA7 R7 B7 D7 L7
    go_wp2
    refine bodyPost_ret (results_cell1 rfl _ _ _ (w.heap.size + 1 + 1) 0 rfl (.agg #[.slice a3 n c3, .slice a7 (m6 + 1) c7]) (run_loadVar_mid _ _ _ _ [.slice a3 n c3, .slice a7 (m6 + 1) c7] _ HE.out.1.range Try.underlying25 rfl (by kernel_rfl))) rfl ⟨_, _, rfl, HE.out.2.1, by rw [HF1.out]; exact HE.out.2.2.1, ?_⟩
    rw [HD1.out, List.length_append, ← HM6.out]
    exact HE.out.2.2.2
  · have hkq : ((k : Int) == 64) = false := by simp; omega
    have HL : Hid (D.length ≠ 64) := by have := HK.out; unfold Hid; omega
    clear hk6
    go_enter Try.func80, Try.ntmps80
    go_wp2_with fail
    refine (cflush_i 0 0 _ (HM.out.later ((((Later.refl w).alloc _).alloc _).alloc _)) hn HKL.out HF.out).mono ?_
    rintro e w3 ⟨vb, vd, rfl, hl3, h1, h2⟩
    have L3 : Hid (Later w w3) := Later.trans ((((Later.refl w).alloc _).alloc _).alloc _) hl3
    have BR3 : Hid (Box w3 (w.heap.size + 1 + 1) 25 [.slice none 0 0, .slice none 0 0]) := Box.later (Box.new' _ _ _ _ rfl _ (by simp)) hl3
    have BD3 : Hid (Box w3 (w.heap.size + 1) 58 (bv X)) := Box.later ((Box.new' _ _ _ _ (by simp) _ (by simp)).alloc _) hl3
    have O1 : Hid (w3.ownsRow w.heap.size 58 64 vb n (bv (wcF n F D))) := by
      have := owns_rebase (B' := w.heap.size) h1 (by simp; omega)
      rw [show app F (D.filter (inR 0 0)) = wcF n F D from by unfold wcF; rw [if_neg HL.out, inR_zero.1]; rfl] at this
      exact this
    have O2 : Hid (w3.ownsRow w.heap.size 79 65 vd (wcD n D).length (dv (wcD n D))) := by
      have := owns_rebase (B' := w.heap.size) h2 (by simp; omega)
      rw [show (D.filter fun d => !inR 0 0 d) = wcD n D from by unfold wcD; rw [if_neg HL.out, inR_zero.2]] at this
      exact this
    clear hl3 h1 h2
    generalize hF1 : wcF n F D = F1 at *
    generalize hD1 : wcD n D = D1 at *
    have HF1 := hide hF1
    have HD1 := hide hD1
    clear hF1 hD1
    obtain ⟨m6, hm6⟩ : ∃ m6, m6 = D1.length := ⟨_, rfl⟩
    rw [← hm6] at O2
    have hm64 : m6 ≤ 64 := by rw [hm6]; exact HDl.out
    have HM6 := hide hm6
    clear hm6
    obtain ⟨a3, c3, rfl⟩ := (Rw.of_owns O1.out).shape
    obtain ⟨a6, c6, rfl⟩ := (Rw.of_owns O2.out).shape
    have BA := hide (Box.new w3 25 #[.slice a3 n c3, .slice a6 m6 c6])
    have BR4 := hide (BR3.out.alloc (.cells #[.slice a3 n c3, .slice a6 m6 c6] 25))
    have BD4 := hide (BD3.out.alloc (.cells #[.slice a3 n c3, .slice a6 m6 c6] 25))
    have P1 := hide (O1.out.alloc (.cells #[.slice a3 n c3, .slice a6 m6 c6] 25))
    have P2 := hide (O2.out.alloc (.cells #[.slice a3 n c3, .slice a6 m6 c6] 25))
    have L4 := hide (L3.out.alloc (.cells #[.slice a3 n c3, .slice a6 m6 c6] 25))
    have hGa : w.heap.size + 1 + 1 < w3.heap.size := BR3.out.lt
    have q1 := BA.out.cell 1
    have hdt := hide BD4.out.range
    clear BR3 BD3 O1 O2 L3
    go_wp2_with (first
      | refine wpList_load_mid rfl 58 (.tmp 5) rfl (w.heap.size + 1) 0 rfl (bv X) _ hdt.out Try.underlying58 rfl (by rw [Try.info_block, bv_length, HX.out]) ?_
      | refine wpList_buildD rfl (.tmp 21) (.tmp 22) rfl (z : Int) X HX.out rfl rfl ?_
      | refine wpList_buildOne Try.elem_dirty Try.underlying23 z65_size (by decide) (by decide) rfl (.tmp 23) rfl (Value.int .i64 (z : Int) :: bv X) rfl hcl.out ?_)
    generalize (w3.alloc (.cells #[.slice a3 n c3, .slice a6 m6 c6] 25)) = w4 at *
    generalize w3.heap.size = GA at *
    intro w6 hr6 hl6 hs6
    have BA6 := hide (BA.out.later hl6)
    have R6 := hide (BR4.out.later hl6)
    have Q1 := hide (owns_later P1.out hl6)
    have Q2 := hide (owns_later P2.out hl6)
    have L6 := hide (L4.out.trans hl6)
    have S6 := hide hr6
    have hz6 := L6.out.size
    clear hr6 hl6 hs6 BA BR4 BD4 P1 P2 L4 q1 hdt
    go_wp2_with (at_builtin; refine wpList_append_rw Try.elem_dirty Try.underlying23 z65_size (by decide) rfl (.tmp 20) (.tmp 24) rfl w.heap.size _ _ _ rfl Q2.out _ 1 (Value.int .i64 (z : Int) :: bv X) rfl S6.out hone.out ?m1 ?m2 hz6 w L6.out ?_)
    case m1 => omega
    case m2 => unfold maxLen; omega
    intro v7 w7 ho7 hb7 hg7
    have BA7 := hide (box_grown BA6.out Q2.out (by decide) hg7)
    have R7 := hide (box_grown R6.out Q2.out (by decide) hg7)
    have B7 : Hid (w7.ownsRow w.heap.size 58 64 (.slice a3 n c3) n (bv F1)) := owns_kept Q1.out fun g hg => hg7.block g (Q1.out.lt g hg).2 (fun e => own_ne_own Q1.out Q2.out (by decide) g hg e.symm)
    have D7 : Hid (w7.ownsRow w.heap.size 79 65 v7 (m6 + 1) (dv (D1 ++ [((z : Int), X)]))) := by
      unfold Hid
      rw [dv_append]
      simpa [dv] using ho7
    have L7 : Hid (Later w w7) := hb7
    clear ho7 hb7 hg7 BA6 R6 Q1 Q2 L6 S6 hz6
    obtain ⟨a7, c7, rfl⟩ := (Rw.of_owns D7.out).shape
    have u0 := BA7.out.cell 0
    have u1 := BA7.out.cell 1
    have uf := BA7.out.frozen 1
    have NA := hide (BA7.out.set 1 (.slice a7 (m6 + 1) c7))
    have NR := hide (R7.out.other ⟨GA, 1, none⟩ (.slice a7 (m6 + 1) c7) (by simp; omega))
    have N1 : Hid ((w7.setCell ⟨GA, 1, none⟩ (.slice a7 (m6 + 1) c7)).ownsRow w.heap.size 58 64 (.slice a3 n c3) n (bv F1)) := owns_kept B7.out fun g hg => heap_setCell_other _ _ _ _ (fun e => box_ne_own BA7.out B7.out (by decide) g hg e.symm)
    have N2 : Hid ((w7.setCell ⟨GA, 1, none⟩ (.slice a7 (m6 + 1) c7)).ownsRow w.heap.size 79 65 (.slice a7 (m6 + 1) c7) (m6 + 1) (dv (D1 ++ [((z : Int), X)]))) := owns_kept D7.out fun g hg => heap_setCell_other _ _ _ _ (fun e => box_ne_own BA7.out D7.out (by decide) g hg e.symm)
    have NL := hide (L7.out.setCell (a := ⟨GA, 1, none⟩) (by simp; omega) (.slice a7 (m6 + 1) c7))
    have HE := hide (med_ret (by omega) NR.out NL.out N1.out N2.out)
    have n0 := NA.out.cell 0
    have n1 := NA.out.cell 1
    have r0 := NR.out.cell 0
    have r1 := NR.out.cell 1
    have f0 := NR.out.frozen 0
    have f1 := NR.out.frozen 1
    clear N1 N2 NA NR NL BA7 R7 B7 D7 L7
    go_wp2
    refine bodyPost_ret (results_cell1 rfl _ _ _ (w.heap.size + 1 + 1) 0 rfl (.agg #[.slice a3 n c3, .slice a7 (m6 + 1) c7]) (run_loadVar_mid _ _ _ _ [.slice a3 n c3, .slice a7 (m6 + 1) c7] _ HE.out.1.range Try.underlying25 rfl (by kernel_rfl))) rfl ⟨_, _, rfl, HE.out.2.1, by rw [HF1.out]; exact HE.out.2.2.1, ?_⟩
    rw [HD1.out, List.length_append, ← HM6.out]
    exact HE.out.2.2.2
end Go.Proofs.Ytbcikndebaeahaa

namespace Go.Proofs.Ytbcikndebaeahaa
open Go.ChangeShapes Go.WideShapes Go.ChangeAt Go.RowKit
set_option linter.unusedVariables false
set_option maxRecDepth 4000
set_option linter.unusedSimpArgs false
/-! The landed cache: Write and Flush. -/
theorem wrE_yes {n : Nat} {D : List Drt} {at_ : Int} (h : wrE n D at_ = 0) : rightB n D = true ∧ 0 ≤ at_ ∧ at_ < n := showE_yes (D := D) h
/-- what is returned: a medium in new memory, and how it went -/
theorem med_of_owns {w w' : World} {vb vd : Value} {n : Nat} {F : List UInt8} {D : List Drt} (ho : Ok D) (h1 : w'.ownsRow w.heap.size 58 64 vb n (bv F)) (h2 : w'.ownsRow w.heap.size 79 65 vd D.length (dv D)) :
    Med w' (.agg #[vb, vd]) n F D ∧ ∀ g, g < w.heap.size → OffM g (.agg #[vb, vd]) :=
  ⟨⟨vb, vd, rfl, Rw.of_owns h1, Rw.of_owns h2, ho⟩, fun g hg => ⟨vb, vd, rfl, owns_off h1 hg, owns_off h2 hg⟩⟩
set_option maxRecDepth 20000 in
set_option maxHeartbeats 1000000 in
theorem cwrite_x : IWriteX := by
  intro v n F D at_ X th w h hX ha ha'
  have HM := hide h
  obtain ⟨vb, vd, rfl, hb, hd, hok⟩ := h
  obtain ⟨ab, cb, rfl⟩ := hb.shape
  obtain ⟨k, hk⟩ : ∃ k, k = D.length := ⟨_, rfl⟩
  rw [← hk] at hd
  obtain ⟨aD, cD, rfl⟩ := hd.shape
  have HO := hide hok
  have HX := hide hX
  clear hb hd hk hok hX
  go_enter Try.func64, Try.ntmps64
  go_wp2_with fail
  refine (ccheck_c at_ _ (HM.out.later ((((Later.refl w).alloc _).alloc _).alloc _))).mono ?_
  rintro e w2 ⟨rfl, hl2⟩
  have L2 : Hid (Later w w2) := Later.trans ((((Later.refl w).alloc _).alloc _).alloc _) hl2
  have BX : Hid (Box w2 w.heap.size 25 [.slice ab n cb, .slice aD k cD]) := Box.later ((Box.new w 25 #[.slice ab n cb, .slice aD k cD]).alloc _ |>.alloc _) hl2
  have BR : Hid (Box w2 (w.heap.size + 1 + 1) 25 [.slice none 0 0, .slice none 0 0]) := Box.later (Box.new' _ _ _ _ rfl _ (by simp)) hl2
  have BD : Hid (Box w2 (w.heap.size + 1) 58 (bv X)) := Box.later ((Box.new' _ _ _ _ (by simp) _ (by simp)).alloc _) hl2
  clear hl2
  have d0 := BX.out.cell 0
  have d1 := BX.out.cell 1
  have r0 := BR.out.cell 0
  have r1 := BR.out.cell 1
  have f0 := BR.out.frozen 0
  have f1 := BR.out.frozen 1
  rw [show showE n D at_ = wrE n D at_ from rfl]
  by_cases hR : wrE n D at_ = 0
  case neg =>
    have hN : Hid (wrN n D at_ = 0 ∧ wrF n F D at_ X th = [] ∧ wrD n D at_ X th = []) := by simp [Hid, wrN, wrF, wrD, hR]
    have hne : (wrE n D at_ != 0) = true := by rw [bne_iff_ne]; exact hR
    have BZ : Hid (Box ((w2.setCell ⟨w.heap.size + 1 + 1, 0, none⟩ (.slice none 0 0)).setCell ⟨w.heap.size + 1 + 1, 1, none⟩ (.slice none 0 0)) (w.heap.size + 1 + 1) 25 [.slice none 0 0, .slice none 0 0]) := (BR.out.set 0 _).set 1 _
    have LZ : Hid (Later w ((w2.setCell ⟨w.heap.size + 1 + 1, 0, none⟩ (.slice none 0 0)).setCell ⟨w.heap.size + 1 + 1, 1, none⟩ (.slice none 0 0))) := (L2.out.setCell (by simp; omega) _).setCell (by simp; omega) _
    generalize hE : wrE n D at_ = er at *
    have HE := hide hE
    clear hE
    go_wp2
    refine bodyPost_ret (results_cell_tmp rfl _ _ _ (w.heap.size + 1 + 1) 0 rfl (.agg #[.slice none 0 0, .slice none 0 0]) (.int .i64 er) (run_loadVar_mid _ _ _ _ [.slice none 0 0, .slice none 0 0] _ BZ.out.range Try.underlying25 rfl (by kernel_rfl)) rfl) rfl ⟨.agg #[.slice none 0 0, .slice none 0 0], by rw [HE.out], LZ.out, ?_, fun g _ => ⟨_, _, rfl, trivial, trivial⟩⟩
    rw [hN.out.1, hN.out.2.1, hN.out.2.2]
    exact Med.nil _
  have hy := wrE_yes hR
  have hE := hide hR
  have hp := right_parts hy.1
  have HFit := hide (fit_of_right hy.1 HO.out)
  have hn64 := hp.1
  have HKL := hide hp.2
  rw [hR]
  obtain ⟨z, rfl⟩ := Int.eq_ofNat_of_zero_le hy.2.1
  have hzn : z < n := by have := hy.2.2; omega
  have hdt := hide BD.out.range
  clear hR hy hp
  cases th with
  | true =>
    have hF : Hid (wrF n F D z X true = over (app F (D.filter (inR z (z + 1)))) (z * 64) X) := by simp [Hid, wrF, hE.out]
    have hD : Hid (wrD n D z X true = D.filter fun d => !inR z (z + 1) d) := by simp [Hid, wrD, hE.out]
    have hN : Hid (wrN n D z = n) := by simp [Hid, wrN, hE.out]
    go_wp2_with (refine wpList_load_mid rfl 58 (.tmp 6) rfl (w.heap.size + 1) 0 rfl (bv X) _ hdt.out Try.underlying58 rfl (by rw [Try.info_block, bv_length, HX.out]) ?_)
    refine (cwt_i z X w2 (HM.out.later L2.out) hn64 HKL.out HFit.out hzn HX.out).mono ?_
    rintro e w3 ⟨vb, vd, rfl, hl3, h1, h2⟩
    have L3 := hide (L2.out.trans hl3)
    have BR3 := hide (Box.later BR.out hl3)
    have O1 : Hid (w3.ownsRow w.heap.size 58 64 vb n (bv (over (app F (D.filter (inR z (z + 1)))) (z * 64) X))) := owns_rebase h1 L2.out.size
    have O2 : Hid (w3.ownsRow w.heap.size 79 65 vd (D.filter fun d => !inR z (z + 1) d).length (dv (D.filter fun d => !inR z (z + 1) d))) := owns_rebase h2 L2.out.size
    clear hl3 h1 h2 r0 r1 f0 f1 d0 d1
    obtain ⟨a3, c3, rfl⟩ := (Rw.of_owns O1.out).shape
    generalize hm6 : (D.filter fun d => !inR z (z + 1) d).length = m6 at *
    have HM6 := hide hm6
    clear hm6
    obtain ⟨a6, c6, rfl⟩ := (Rw.of_owns O2.out).shape
    have HE := hide (med_ret (by omega) BR3.out L3.out O1.out O2.out)
    have r0 := BR3.out.cell 0
    have r1 := BR3.out.cell 1
    have f0 := BR3.out.frozen 0
    have f1 := BR3.out.frozen 1
    clear O1 O2 L3
    go_wp2
    have HEE := med_of_owns (F := (over (app F (D.filter (inR z (z + 1)))) (z * 64) X)) (D := D.filter fun d => !inR z (z + 1) d) (HO.out.filter _) HE.out.2.2.1 (by rw [HM6.out]; exact HE.out.2.2.2)
    exact bodyPost_ret (results_cell_tmp rfl _ _ _ (w.heap.size + 1 + 1) 0 rfl (.agg #[.slice a3 n c3, .slice a6 m6 c6]) (.int .i64 0) (run_loadVar_mid _ _ _ _ [.slice a3 n c3, .slice a6 m6 c6] _ HE.out.1.range Try.underlying25 rfl (by kernel_rfl)) rfl) rfl ⟨.agg #[.slice a3 n c3, .slice a6 m6 c6], by rw [hE.out], HE.out.2.1, by rw [hN.out, hF.out, hD.out]; exact HEE⟩
  | false =>
    have hF : Hid (wrF n F D z X false = wcF n F D) := by simp [Hid, wrF, wcF, hE.out]
    have hD : Hid (wrD n D z X false = wcD n D ++ [((z : Int), X)]) := by simp [Hid, wrD, wcD, hE.out]
    have hN : Hid (wrN n D z = n) := by simp [Hid, wrN, hE.out]
    have HOk : Hid (Ok (wcD n D ++ [((z : Int), X)])) := by
      refine Ok.append ?_ fun d hd => ?_
      · unfold wcD
        split
        · exact HO.out.filter _
        · exact HO.out
      · have : d = ((z : Int), X) := by simpa using hd
        subst this
        exact ⟨HX.out, by omega, by omega⟩
    go_wp2_with (refine wpList_load_mid rfl 58 (.tmp 6) rfl (w.heap.size + 1) 0 rfl (bv X) _ hdt.out Try.underlying58 rfl (by rw [Try.info_block, bv_length, HX.out]) ?_)
    refine (cwc_i z X w2 (HM.out.later L2.out) hn64 HKL.out HFit.out hzn HX.out).mono ?_
    rintro e w3 ⟨vb, vd, rfl, hl3, h1, h2⟩
    have L3 := hide (L2.out.trans hl3)
    have BR3 := hide (Box.later BR.out hl3)
    have O1 : Hid (w3.ownsRow w.heap.size 58 64 vb n (bv (wcF n F D))) := owns_rebase h1 L2.out.size
    have O2 : Hid (w3.ownsRow w.heap.size 79 65 vd (wcD n D ++ [((z : Int), X)]).length (dv (wcD n D ++ [((z : Int), X)]))) := owns_rebase h2 L2.out.size
    clear hl3 h1 h2 r0 r1 f0 f1 d0 d1
    obtain ⟨a3, c3, rfl⟩ := (Rw.of_owns O1.out).shape
    generalize hm6 : (wcD n D ++ [((z : Int), X)]).length = m6 at *
    have HM6 := hide hm6
    clear hm6
    obtain ⟨a6, c6, rfl⟩ := (Rw.of_owns O2.out).shape
    have HE := hide (med_ret (by omega) BR3.out L3.out O1.out O2.out)
    have r0 := BR3.out.cell 0
    have r1 := BR3.out.cell 1
    have f0 := BR3.out.frozen 0
    have f1 := BR3.out.frozen 1
    clear O1 O2 L3
    go_wp2
    have HEE := med_of_owns (F := (wcF n F D)) (D := wcD n D ++ [((z : Int), X)]) HOk.out HE.out.2.2.1 (by rw [HM6.out]; exact HE.out.2.2.2)
    exact bodyPost_ret (results_cell_tmp rfl _ _ _ (w.heap.size + 1 + 1) 0 rfl (.agg #[.slice a3 n c3, .slice a6 m6 c6]) (.int .i64 0) (run_loadVar_mid _ _ _ _ [.slice a3 n c3, .slice a6 m6 c6] _ HE.out.1.range Try.underlying25 rfl (by kernel_rfl)) rfl) rfl ⟨.agg #[.slice a3 n c3, .slice a6 m6 c6], by rw [hE.out], HE.out.2.1, by rw [hN.out, hF.out, hD.out]; exact HEE⟩
end Go.Proofs.Ytbcikndebaeahaa

namespace Go.Proofs.Ytbcikndebaeahaa
open Go.ChangeShapes Go.WideShapes Go.ChangeAt Go.RowKit
set_option linter.unusedVariables false
set_option maxRecDepth 4000
set_option linter.unusedSimpArgs false
/-! The landed cache: Flush. -/
end Go.Proofs.Ytbcikndebaeahaa

namespace Go.Proofs.Ytbcikndebaeahaa
open Go.ChangeShapes Go.WideShapes Go.ChangeAt Go.RowKit
set_option linter.unusedVariables false
set_option maxRecDepth 4000
set_option linter.unusedSimpArgs false
/-! The landed slot: slices.Clone. -/
theorem slice_nil_at (d : Nat) {T e : TypeId} (h : Try.prog.underlying T = some (.slice e)) (a : Option Addr) (n c : Nat) (w : World) : (Op.equalIn (d + 1) T (.slice a n c) (.slice none 0 0)).run Try.prog w = .ok a.isNone w := by
  cases a <;> simp [Op.equalIn, run_underlying h]
theorem slice_is_nil {T e : TypeId} (h : Try.prog.underlying T = some (.slice e)) (a : Option Addr) (n c : Nat) (w : World) : (binOp .eql T (.slice a n c) (.slice none 0 0)).run Try.prog w = .ok (.bool a.isNone) w := by
  have h2 : (Op.equal T (.slice a n c) (.slice none 0 0)).run Try.prog w = .ok a.isNone w := slice_nil_at 9999 h a n c w
  simp [binOp, h2]
set_option maxHeartbeats 1000000 in
theorem clone64_c {v : Value} {n : Nat} {F : List UInt8} (w : World) (h : Rw 64 w v n (bv F)) (hn : n ≤ 1000) :
    Calls Try.prog 42 #[v] w fun e w' => ∃ v', e = .returned v' ∧ Later w w' ∧ w'.ownsRow w.heap.size 58 64 v' n (bv F) := by
  have hown : Hid ((w.alloc (.cells #[] 58)).ownsRow w.heap.size 58 64 (.slice (some ⟨w.heap.size, 0, none⟩) 0 0) 0 []) := World.ownsRow_lit w #[] 0 (Nat.le_refl _) (by simp [maxLen]) rfl
  have hb : Hid (Below w.heap.size w (w.alloc (.cells #[] 58))) := (Below.refl _ _).alloc (Nat.le_refl _) _
  have hr := hide (h.later ((Later.refl w).alloc (.cells #[] 58)))
  obtain ⟨hl0, _, a, cap, rfl, _, h0⟩ := h
  cases a with
  | none =>
    obtain rfl : n = 0 := by
      rcases h0 with h0 | ⟨b, off, e, _⟩
      · exact h0
      · cases e
    have hx : bv F = [] := List.eq_nil_of_length_eq_zero (by rw [hl0])
    rw [hx]
    clear hown hb hr h0 hx hl0
    have hq := slice_is_nil Try.underlying22 none 0 cap w
    go_enter Try.func42, Try.ntmps42
    go_wp2
    go_ret
    exact ⟨_, rfl, Later.refl w, World.ownsRow_nil w _ _ _⟩
  | some ad =>
    clear h0 hl0
    have hq := slice_is_nil Try.underlying22 (some ad) n cap w
    go_enter Try.func42, Try.ntmps42
    go_wp2_with (at_builtin; refine wpList_append_rw Try.elem_block Try.underlying22 rfl (by decide) rfl (.tmp 5) (.tmp 6) rfl w.heap.size _ 0 [] rfl hown.out _ n (bv F) rfl hr.out (bv_one F) ?c1 ?c2 ?c3 w hb.out ?_)
    case c1 => omega
    case c2 => unfold maxLen; omega
    case c3 => simp
    intro v' w' ho hbl _
    go_wp2
    go_ret
    exact ⟨_, rfl, hbl, by simpa using ho⟩
set_option maxHeartbeats 1000000 in
theorem clone65_c {v : Value} {n : Nat} {D : List Drt} (w : World) (h : Rw 65 w v n (dv D)) (hn : n ≤ 1000) :
    Calls Try.prog 43 #[v] w fun e w' => ∃ v', e = .returned v' ∧ Later w w' ∧ w'.ownsRow w.heap.size 79 65 v' n (dv D) := by
  have hown : Hid ((w.alloc (.cells #[] 79)).ownsRow w.heap.size 79 65 (.slice (some ⟨w.heap.size, 0, none⟩) 0 0) 0 []) := World.ownsRow_lit w #[] 0 (Nat.le_refl _) (by simp [maxLen]) rfl
  have hb : Hid (Below w.heap.size w (w.alloc (.cells #[] 79))) := (Below.refl _ _).alloc (Nat.le_refl _) _
  have hr := hide (h.later ((Later.refl w).alloc (.cells #[] 79)))
  obtain ⟨hl0, _, a, cap, rfl, _, h0⟩ := h
  cases a with
  | none =>
    obtain rfl : n = 0 := by
      rcases h0 with h0 | ⟨b, off, e, _⟩
      · exact h0
      · cases e
    have hx : dv D = [] := List.eq_nil_of_length_eq_zero (by rw [hl0])
    rw [hx]
    clear hown hb hr h0 hx hl0
    have hq := slice_is_nil Try.underlying23 none 0 cap w
    go_enter Try.func43, Try.ntmps43
    go_wp2
    go_ret
    exact ⟨_, rfl, Later.refl w, World.ownsRow_nil w _ _ _⟩
  | some ad =>
    clear h0 hl0
    have hq := slice_is_nil Try.underlying23 (some ad) n cap w
    go_enter Try.func43, Try.ntmps43
    go_wp2_with (at_builtin; refine wpList_append_rw Try.elem_dirty Try.underlying23 z65_size (by decide) rfl (.tmp 5) (.tmp 6) rfl w.heap.size _ 0 [] rfl hown.out _ n (dv D) rfl hr.out (dv_one D) ?c1 ?c2 ?c3 w hb.out ?_)
    case c1 => omega
    case c2 => unfold maxLen; omega
    case c3 => simp
    intro v' w' ho hbl _
    go_wp2
    go_ret
    exact ⟨_, rfl, hbl, by simpa using ho⟩
end Go.Proofs.Ytbcikndebaeahaa
