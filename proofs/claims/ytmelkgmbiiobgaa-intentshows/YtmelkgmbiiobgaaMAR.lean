import Derived.Laws.BitsAllLaws
import Derived.Test.YtmelkgmbiiobgaaMAO
import Derived.Test.YtmelkgmbiiobgaaMAG
import Derived.Test.YtmelkgmbiiobgaaMAQ
import Derived.Test.YtmelkgmbiiobgaaMAJ
import Derived.Test.YtmelkgmbiiobgaaMAE
import Derived.Test.YtmelkgmbiiobgaaMAM
import Derived.Test.YtmelkgmbiiobgaaMAI
namespace Go.Proofs.Ytmelkgmbiiobgaa
open Go.ChangeShapes Go.WideShapes Go.ChangeAt Go.RowKit
set_option linter.unusedVariables false
set_option maxRecDepth 4000
set_option linter.unusedSimpArgs false
/-! What may be there when the power goes. -/
abbrev ActT := Int × UInt8 × Bool × Bool
def av (L : List ActT) : List Value := L.flatMap fun x => [.int .i64 x.1, .int .u8 (x.2.1.toNat : Int), .bool x.2.2.1, .bool x.2.2.2]
section
variable {H : Type} {enc : TypeId × Value → H} {w : World} {r : Reach} {base : Nat} {v : Value} {d : DataW H} {p : List MemPlace}
end
end Go.Proofs.Ytmelkgmbiiobgaa

namespace Go.Proofs.Ytmelkgmbiiobgaa
open Go.ChangeShapes Go.WideShapes Go.ChangeAt Go.RowKit
set_option linter.unusedVariables false
set_option maxRecDepth 4000
set_option linter.unusedSimpArgs false
end Go.Proofs.Ytmelkgmbiiobgaa

namespace Go.Proofs.Ytmelkgmbiiobgaa
open Go.ChangeShapes Go.WideShapes Go.ChangeAt Go.RowKit
set_option linter.unusedVariables false
set_option maxRecDepth 4000
set_option linter.unusedSimpArgs false
/-! The landed cache: All and Lose. -/
theorem field_blocks (w : World) (a3 a6 : Option Addr) (n c3 m c6 : Nat) : Sem.run Try.prog (Instr.field 25 (.agg #[.slice a3 n c3, .slice a6 m c6]) 0) w = .ok (.slice a3 n c3) w := by
  simp [Instr.field, part, asAgg]
theorem right_parts {n : Nat} {D : List Drt} (h : rightB n D = true) : n ≤ 64 ∧ D.length ≤ 64 := by
  simp only [rightB, decide_eq_true_eq] at h
  exact ⟨h.1, h.2.1⟩
set_option maxHeartbeats 1000000 in
theorem call3_c : IAll := by
  intro v n F D w h
  have HM := hide h
  obtain ⟨vb, vd, rfl, hb, hd, hok⟩ := h
  obtain ⟨ab, cb, rfl⟩ := hb.shape
  obtain ⟨k, hk⟩ : ∃ k, k = D.length := ⟨_, rfl⟩
  rw [← hk] at hd
  obtain ⟨aD, cD, rfl⟩ := hd.shape
  have HO := hide hok
  clear hb hd hk hok
  go_enter Try.func66, Try.ntmps66
  go_wp2_with fail
  refine (cright_c _ (HM.out.later ((Later.refl w).alloc _))).mono ?_
  rintro e w2 ⟨rfl, hl2⟩
  have L2 : Hid (Later w w2) := Later.trans ((Later.refl w).alloc _) hl2
  have BX : Hid (Box w2 w.heap.size 25 [.slice ab n cb, .slice aD k cD]) := Box.later (Box.new w 25 #[.slice ab n cb, .slice aD k cD]) hl2
  clear hl2
  have d0 := BX.out.cell 0
  have d1 := BX.out.cell 1
  by_cases hR : rightB n D = true
  case neg =>
    have hR' : rightB n D = false := by simpa using hR
    rw [hR']
    go_wp2
    go_ret
    refine ⟨_, rfl, L2.out, ?_⟩
    simp only [allN, allF, hR']
    exact Rw.nil _ _
  rw [hR]
  have HR := hide hR
  have hp := right_parts hR
  have HFit := hide (fit_of_right hR HO.out)
  clear hR
  go_wp2_with fail
  refine (cflush_i 0 (n : Int) w2 (HM.out.later L2.out) hp.1 hp.2 HFit.out).mono ?_
  rintro e w3 ⟨vb, vd, rfl, hl3, h1, h2⟩
  have L3 := hide (L2.out.trans hl3)
  rw [(inR_all HFit.out).1] at h1
  rw [(inR_all HFit.out).2] at h2
  obtain ⟨a3, c3, rfl⟩ := (Rw.of_owns h1).shape
  obtain ⟨a6, c6, rfl⟩ := (Rw.of_owns h2).shape
  have O1 := hide h1
  clear h1 h2 hl3 d0 d1
  have hfd := field_blocks w3 a3 a6 n c3 0 c6
  go_wp2
  go_ret
  refine ⟨_, rfl, L3.out, ?_⟩
  simp only [allN, allF, HR.out, if_true]
  exact Rw.of_owns O1.out
end Go.Proofs.Ytmelkgmbiiobgaa

namespace Go.Proofs.Ytmelkgmbiiobgaa
open Go.ChangeShapes Go.WideShapes Go.ChangeAt Go.RowKit
set_option linter.unusedVariables false
set_option maxRecDepth 4000
set_option linter.unusedSimpArgs false
/-! The landed cache: Show. -/
end Go.Proofs.Ytmelkgmbiiobgaa

namespace Go.Proofs.Ytmelkgmbiiobgaa
open Go.ChangeShapes Go.WideShapes Go.ChangeAt Go.RowKit
set_option linter.unusedVariables false
set_option maxRecDepth 4000
set_option linter.unusedSimpArgs false
/-! The landed cache: writeThrough, writeCached, Write. -/
/-- a medium in new memory is laid into the variable of the result -/
theorem med_ret {w w8 : World} {R n c3 m6 c6 : Nat} {a3 a6 : Option Addr} {xs ys : List Value} (hR : w.heap.size ≤ R) (hB : Box w8 R 25 [.slice none 0 0, .slice none 0 0]) (hl : Later w w8)
    (h1 : w8.ownsRow w.heap.size 50 64 (.slice a3 n c3) n xs) (h2 : w8.ownsRow w.heap.size 53 65 (.slice a6 m6 c6) m6 ys) :
    Box ((w8.setCell ⟨R, 0, none⟩ (.slice a3 n c3)).setCell ⟨R, 1, none⟩ (.slice a6 m6 c6)) R 25 [.slice a3 n c3, .slice a6 m6 c6] ∧ Later w ((w8.setCell ⟨R, 0, none⟩ (.slice a3 n c3)).setCell ⟨R, 1, none⟩ (.slice a6 m6 c6)) ∧
    ((w8.setCell ⟨R, 0, none⟩ (.slice a3 n c3)).setCell ⟨R, 1, none⟩ (.slice a6 m6 c6)).ownsRow w.heap.size 50 64 (.slice a3 n c3) n xs ∧ ((w8.setCell ⟨R, 0, none⟩ (.slice a3 n c3)).setCell ⟨R, 1, none⟩ (.slice a6 m6 c6)).ownsRow w.heap.size 53 65 (.slice a6 m6 c6) m6 ys := by
  have hne : ∀ g, g ≠ R → ((w8.setCell ⟨R, 0, none⟩ (.slice a3 n c3)).setCell ⟨R, 1, none⟩ (.slice a6 m6 c6)).heap[g]? = w8.heap[g]? := fun g hg => by
    rw [heap_setCell_other _ _ _ _ (by simpa using hg), heap_setCell_other _ _ _ _ (by simpa using hg)]
  exact ⟨(hB.set 0 _).set 1 _, (hl.setCell (by simpa using hR) _).setCell (by simpa using hR) _, owns_kept h1 fun g hg => hne g (fun e => box_ne_own hB h1 (by decide) g hg e.symm), owns_kept h2 fun g hg => hne g (fun e => box_ne_own hB h2 (by decide) g hg e.symm)⟩
end Go.Proofs.Ytmelkgmbiiobgaa

namespace Go.Proofs.Ytmelkgmbiiobgaa
open Go.ChangeShapes Go.WideShapes Go.ChangeAt Go.RowKit
set_option linter.unusedVariables false
set_option maxRecDepth 4000
set_option linter.unusedSimpArgs false
/-! The landed cache: Write and Flush. -/
/-- what is returned: a medium in new memory, and how it went -/
theorem med_of_owns {w w' : World} {vb vd : Value} {n : Nat} {F : List UInt8} {D : List Drt} (ho : Ok D) (h1 : w'.ownsRow w.heap.size 50 64 vb n (bv F)) (h2 : w'.ownsRow w.heap.size 53 65 vd D.length (dv D)) :
    Med w' (.agg #[vb, vd]) n F D ∧ ∀ g, g < w.heap.size → OffM g (.agg #[vb, vd]) :=
  ⟨⟨vb, vd, rfl, Rw.of_owns h1, Rw.of_owns h2, ho⟩, fun g hg => ⟨vb, vd, rfl, owns_off h1 hg, owns_off h2 hg⟩⟩
end Go.Proofs.Ytmelkgmbiiobgaa

namespace Go.Proofs.Ytmelkgmbiiobgaa
open Go.ChangeShapes Go.WideShapes Go.ChangeAt Go.RowKit
set_option linter.unusedVariables false
set_option maxRecDepth 4000
set_option linter.unusedSimpArgs false
/-! The landed cache: Flush. -/
def IFlushX : Prop := ∀ (v : Value) (n : Nat) (F : List UInt8) (D : List Drt) (at_ m : Int) (w : World), Med w v n F D → -9223372036854775808 ≤ at_ → at_ ≤ 9223372036854775807 → -9223372036854775808 ≤ m → m ≤ 9223372036854775807 →
  Calls Try.prog 76 #[v, .int .i64 at_, .int .i64 m] w fun e w' => ∃ v', e = .returned (.tuple #[v', .int .i64 (flushE n D at_ m)]) ∧ Later w w' ∧ Med w' v' (flushN n D at_ m) (flushF n F D at_ m) (flushD n D at_ m) ∧ ∀ g, g < w.heap.size → OffM g v'
set_option maxRecDepth 20000 in
set_option maxHeartbeats 1000000 in
theorem cflush3_x : IFlushX := by
  intro v n F D at_ m w h ha ha' hm hm'
  have HM := hide h
  obtain ⟨vb, vd, rfl, hb, hd, hok⟩ := h
  obtain ⟨ab, cb, rfl⟩ := hb.shape
  obtain ⟨k, hk⟩ : ∃ k, k = D.length := ⟨_, rfl⟩
  rw [← hk] at hd
  obtain ⟨aD, cD, rfl⟩ := hd.shape
  have hnm := hb.2.1
  unfold maxLen at hnm
  have HO := hide hok
  have HK := hide hk
  clear hb hd hk hok
  go_enter Try.func76, Try.ntmps76
  go_wp2_with fail
  refine (cright_c _ (HM.out.later (((Later.refl w).alloc _).alloc _))).mono ?_
  rintro e w2 ⟨rfl, hl2⟩
  have L2 : Hid (Later w w2) := Later.trans (((Later.refl w).alloc _).alloc _) hl2
  have BX : Hid (Box w2 w.heap.size 25 [.slice ab n cb, .slice aD k cD]) := Box.later ((Box.new w 25 #[.slice ab n cb, .slice aD k cD]).alloc _) hl2
  have BR : Hid (Box w2 (w.heap.size + 1) 25 [.slice none 0 0, .slice none 0 0]) := Box.later (Box.new' _ _ _ _ rfl _ (by simp)) hl2
  clear hl2
  have d0 := BX.out.cell 0
  have d1 := BX.out.cell 1
  have r0 := BR.out.cell 0
  have r1 := BR.out.cell 1
  have f0 := BR.out.frozen 0
  have f1 := BR.out.frozen 1
  have BZ : Hid (Box ((w2.setCell ⟨w.heap.size + 1, 0, none⟩ (.slice none 0 0)).setCell ⟨w.heap.size + 1, 1, none⟩ (.slice none 0 0)) (w.heap.size + 1) 25 [.slice none 0 0, .slice none 0 0]) := (BR.out.set 0 _).set 1 _
  have LZ : Hid (Later w ((w2.setCell ⟨w.heap.size + 1, 0, none⟩ (.slice none 0 0)).setCell ⟨w.heap.size + 1, 1, none⟩ (.slice none 0 0))) := (L2.out.setCell (by simp) _).setCell (by simp) _
  by_cases hR : rightB n D = true
  case neg =>
    have hR' : rightB n D = false := by simpa using hR
    rw [hR']
    go_wp2
    refine bodyPost_ret (results_cell_tmp rfl _ _ _ (w.heap.size + 1) 0 rfl (.agg #[.slice none 0 0, .slice none 0 0]) (.int .i64 1) (run_loadVar_mid _ _ _ _ [.slice none 0 0, .slice none 0 0] _ BZ.out.range Try.underlying25 rfl (by kernel_rfl)) rfl) rfl ⟨.agg #[.slice none 0 0, .slice none 0 0], ?_, LZ.out, ?_⟩
    · simp [flushE, hR']
    · exact ⟨by simpa [flushE, flushN, flushF, flushD, hR'] using Med.nil _, fun g hg => ⟨_, _, rfl, trivial, trivial⟩⟩
  rw [hR]
  by_cases hin : flushOk n at_ m = true
  case neg =>
    have hE : Hid (flushE n D at_ m = 5) := by simp [Hid, flushE, hR, hin]
    have hin' : ¬ (0 ≤ at_ ∧ 0 ≤ m ∧ at_ ≤ n) := by simpa [flushOk] using hin
    clear hin
    by_cases c1 : at_ < 0
    · go_wp2
      refine bodyPost_ret (results_cell_tmp rfl _ _ _ (w.heap.size + 1) 0 rfl (.agg #[.slice none 0 0, .slice none 0 0]) (.int .i64 5) (run_loadVar_mid _ _ _ _ [.slice none 0 0, .slice none 0 0] _ BZ.out.range Try.underlying25 rfl (by kernel_rfl)) rfl) rfl ⟨.agg #[.slice none 0 0, .slice none 0 0], by rw [hE.out], LZ.out, ?_⟩
      exact ⟨by simpa [flushN, flushF, flushD, hE.out] using Med.nil _, fun g hg => ⟨_, _, rfl, trivial, trivial⟩⟩
    · by_cases c2 : m < 0
      · go_wp2
        refine bodyPost_ret (results_cell_tmp rfl _ _ _ (w.heap.size + 1) 0 rfl (.agg #[.slice none 0 0, .slice none 0 0]) (.int .i64 5) (run_loadVar_mid _ _ _ _ [.slice none 0 0, .slice none 0 0] _ BZ.out.range Try.underlying25 rfl (by kernel_rfl)) rfl) rfl ⟨.agg #[.slice none 0 0, .slice none 0 0], by rw [hE.out], LZ.out, ?_⟩
        exact ⟨by simpa [flushN, flushF, flushD, hE.out] using Med.nil _, fun g hg => ⟨_, _, rfl, trivial, trivial⟩⟩
      · have c3 : (n : Int) < at_ := by omega
        go_wp2
        refine bodyPost_ret (results_cell_tmp rfl _ _ _ (w.heap.size + 1) 0 rfl (.agg #[.slice none 0 0, .slice none 0 0]) (.int .i64 5) (run_loadVar_mid _ _ _ _ [.slice none 0 0, .slice none 0 0] _ BZ.out.range Try.underlying25 rfl (by kernel_rfl)) rfl) rfl ⟨.agg #[.slice none 0 0, .slice none 0 0], by rw [hE.out], LZ.out, ?_⟩
        exact ⟨by simpa [flushN, flushF, flushD, hE.out] using Med.nil _, fun g hg => ⟨_, _, rfl, trivial, trivial⟩⟩
  have hin' : 0 ≤ at_ ∧ 0 ≤ m ∧ at_ ≤ n := by simpa [flushOk] using hin
  have hE : Hid (flushE n D at_ m = 0) := by simp [Hid, flushE, hR, hin]
  have hR2 := hR
  simp only [rightB, decide_eq_true_eq] at hR2
  have hn64 := hR2.1
  have HL := hide hR2.2.1
  have HFit := hide (fit_of_right hR HO.out)
  have c1 : ¬ at_ < 0 := by omega
  have c2 : ¬ m < 0 := by omega
  have c3 : ¬ (n : Int) < at_ := by omega
  clear hin hR2 hR
  have hF : Hid (flushF n F D at_ m = app F (D.filter (inR at_ (flushTo n at_ m)))) := by simp [Hid, flushF, hE.out]
  have hD : Hid (flushD n D at_ m = D.filter (fun d => !inR at_ (flushTo n at_ m) d)) := by simp [Hid, flushD, hE.out]
  have hN : Hid (flushN n D at_ m = n) := by simp [Hid, flushN, hE.out]
  have hend := hide fun (w' : World) => cend_c n at_ m w' hn64 hin'.1 hin'.2.2 hin'.2.1 hm'
  generalize hT : flushTo n at_ m = T at *
  clear hT r0 r1 f0 f1 BZ LZ
  go_wp2_with fail
  have hc0 := fun r => (Box.later BX.out ((Later.refl w2).drew.trans (later_rg w2.drew r))).cell 0
  have hc1 := fun r => (Box.later BX.out ((Later.refl w2).drew.trans (later_rg w2.drew r))).cell 1
  refine wp_region_tree [0, 1, 2, 3, 4, 5, 6, 7] [8] [9, 10] (by kernel_rfl) (by kernel_rfl) (by kernel_rfl) (by kernel_rfl) ?_
  iterate 7 (refine wpT_mild rfl (fun K hK => ?_); go_simp; refine hK _ ?_; clear hK K)
  clear hc0 hc1 d0 d1
  refine wpT_call rfl (by kernel_rfl) 95 (Plain.of (by kernel_rfl)) [.tmp 30, .tmp 31, .tmp 32] _ rfl [.int .i64 n, .int .i64 at_, .int .i64 m] rfl (.int .i64 T) (fun wx hx => hend.out wx) ?_
  refine wpT_one (fun v W => ∃ vb vd, v = .agg #[vb, vd] ∧ W.ownsRow w.heap.size 50 64 vb n (bv (app F (D.filter (inR at_ T)))) ∧ W.ownsRow w.heap.size 53 65 vd (D.filter fun d => !inR at_ T d).length (dv (D.filter fun d => !inR at_ T d))) (by kernel_rfl)
    (fun v W W' hl ⟨vb, vd, h1, h2, h3⟩ => ⟨vb, vd, h1, owns_later h2 hl, owns_later h3 hl⟩) (fun W hl => ?_) ?_
  · have LW := hide (L2.out.trans ((Later.refl w2).drew.trans hl))
    refine lVal_step rfl (fun K hK => ?_)
    go_simp
    refine (cflush_i at_ T W (HM.out.later LW.out) hn64 HL.out HFit.out).mono ?_
    rintro e w3 ⟨vb, vd, rfl, hl3, h1, h2⟩
    exact ⟨_, rfl, hl3, hK _ _ ⟨vb, vd, rfl, owns_rebase h1 LW.out.size, owns_rebase h2 LW.out.size⟩⟩
  · intro v W hl ⟨vb, vd, hv, h1, h2⟩
    subst hv
    have LW := hide (L2.out.trans ((Later.refl w2).drew.trans hl))
    have BR3 := hide (BR.out.later ((Later.refl w2).drew.trans hl))
    have O1 := hide h1
    have O2 := hide h2
    clear h1 h2 hl
    obtain ⟨a3, c3, rfl⟩ := (Rw.of_owns O1.out).shape
    generalize hm6 : (D.filter fun d => !inR at_ T d).length = m6 at *
    have HM6 := hide hm6
    clear hm6
    obtain ⟨a6, c6, rfl⟩ := (Rw.of_owns O2.out).shape
    have HE := hide (med_ret (by omega) BR3.out LW.out O1.out O2.out)
    have r0 := BR3.out.cell 0
    have r1 := BR3.out.cell 1
    have f0 := BR3.out.frozen 0
    have f1 := BR3.out.frozen 1
    clear O1 O2 LW
    refine wpL_cons rfl (fun K hK => ?_)
    simp only [dstOf]
    go_simp
    refine hK _ _ ?_
    clear hK K
    refine wpL_cons rfl (fun K hK => ?_)
    go_simp
    refine hK _ _ (wpL_nil ?_)
    clear hK K
    go_wp2
    have HEE := med_of_owns (F := app F (D.filter (inR at_ T))) (D := D.filter fun d => !inR at_ T d) (HO.out.filter _) HE.out.2.2.1 (by rw [HM6.out]; exact HE.out.2.2.2)
    exact bodyPost_ret (results_cell_tmp rfl _ _ _ (w.heap.size + 1) 0 rfl (.agg #[.slice a3 n c3, .slice a6 m6 c6]) (.int .i64 0) (run_loadVar_mid _ _ _ _ [.slice a3 n c3, .slice a6 m6 c6] _ HE.out.1.range Try.underlying25 rfl (by kernel_rfl)) rfl) rfl ⟨.agg #[.slice a3 n c3, .slice a6 m6 c6], by rw [hE.out], HE.out.2.1, by rw [hN.out, hF.out, hD.out]; exact HEE⟩
end Go.Proofs.Ytmelkgmbiiobgaa

namespace Go.Proofs.Ytmelkgmbiiobgaa
open Go.ChangeShapes Go.WideShapes Go.ChangeAt Go.RowKit
set_option linter.unusedVariables false
set_option maxRecDepth 4000
set_option linter.unusedSimpArgs false
/-! The landed slot: slices.Clone. -/
theorem slice_nil_at (d : Nat) {T e : TypeId} (h : Try.prog.underlying T = some (.slice e)) (a : Option Addr) (n c : Nat) (w : World) : (Op.equalIn (d + 1) T (.slice a n c) (.slice none 0 0)).run Try.prog w = .ok a.isNone w := by
  cases a <;> simp [Op.equalIn, run_underlying h]
theorem slice_is_nil {T e : TypeId} (h : Try.prog.underlying T = some (.slice e)) (a : Option Addr) (n c : Nat) (w : World) : (binOp .eql T (.slice a n c) (.slice none 0 0)).run Try.prog w = .ok (.bool a.isNone) w := by
  have h2 : (Op.equal T (.slice a n c) (.slice none 0 0)).run Try.prog w = .ok a.isNone w := slice_nil_at 9999 h a n c w
  simp [binOp, h2]
set_option maxHeartbeats 1000000 in
theorem clone64_c {v : Value} {n : Nat} {F : List UInt8} (w : World) (h : Rw 64 w v n (bv F)) (hn : n ≤ 1000) :
    Calls Try.prog 44 #[v] w fun e w' => ∃ v', e = .returned v' ∧ Later w w' ∧ w'.ownsRow w.heap.size 50 64 v' n (bv F) := by
  have hown : Hid ((w.alloc (.cells #[] 50)).ownsRow w.heap.size 50 64 (.slice (some ⟨w.heap.size, 0, none⟩) 0 0) 0 []) := World.ownsRow_lit w #[] 0 (Nat.le_refl _) (by simp [maxLen]) rfl
  have hb : Hid (Below w.heap.size w (w.alloc (.cells #[] 50))) := (Below.refl _ _).alloc (Nat.le_refl _) _
  have hr := hide (h.later ((Later.refl w).alloc (.cells #[] 50)))
  obtain ⟨hl0, _, a, cap, rfl, _, h0⟩ := h
  cases a with
  | none =>
    obtain rfl : n = 0 := by
      rcases h0 with h0 | ⟨b, off, e, _⟩
      · exact h0
      · cases e
    have hx : bv F = [] := List.eq_nil_of_length_eq_zero (by rw [hl0])
    rw [hx]
    clear hown hb hr h0 hx hl0
    have hq := slice_is_nil Try.underlying22 none 0 cap w
    go_enter Try.func44, Try.ntmps44
    go_wp2
    go_ret
    exact ⟨_, rfl, Later.refl w, World.ownsRow_nil w _ _ _⟩
  | some ad =>
    clear h0 hl0
    have hq := slice_is_nil Try.underlying22 (some ad) n cap w
    go_enter Try.func44, Try.ntmps44
    go_wp2_with (at_builtin; refine wpList_append_rw Try.elem_block Try.underlying22 rfl (by decide) rfl (.tmp 5) (.tmp 6) rfl w.heap.size _ 0 [] rfl hown.out _ n (bv F) rfl hr.out (bv_one F) ?c1 ?c2 ?c3 w hb.out ?_)
    case c1 => omega
    case c2 => unfold maxLen; omega
    case c3 => simp
    intro v' w' ho hbl _
    go_wp2
    go_ret
    exact ⟨_, rfl, hbl, by simpa using ho⟩
set_option maxHeartbeats 1000000 in
theorem clone65_c {v : Value} {n : Nat} {D : List Drt} (w : World) (h : Rw 65 w v n (dv D)) (hn : n ≤ 1000) :
    Calls Try.prog 45 #[v] w fun e w' => ∃ v', e = .returned v' ∧ Later w w' ∧ w'.ownsRow w.heap.size 53 65 v' n (dv D) := by
  have hown : Hid ((w.alloc (.cells #[] 53)).ownsRow w.heap.size 53 65 (.slice (some ⟨w.heap.size, 0, none⟩) 0 0) 0 []) := World.ownsRow_lit w #[] 0 (Nat.le_refl _) (by simp [maxLen]) rfl
  have hb : Hid (Below w.heap.size w (w.alloc (.cells #[] 53))) := (Below.refl _ _).alloc (Nat.le_refl _) _
  have hr := hide (h.later ((Later.refl w).alloc (.cells #[] 53)))
  obtain ⟨hl0, _, a, cap, rfl, _, h0⟩ := h
  cases a with
  | none =>
    obtain rfl : n = 0 := by
      rcases h0 with h0 | ⟨b, off, e, _⟩
      · exact h0
      · cases e
    have hx : dv D = [] := List.eq_nil_of_length_eq_zero (by rw [hl0])
    rw [hx]
    clear hown hb hr h0 hx hl0
    have hq := slice_is_nil Try.underlying23 none 0 cap w
    go_enter Try.func45, Try.ntmps45
    go_wp2
    go_ret
    exact ⟨_, rfl, Later.refl w, World.ownsRow_nil w _ _ _⟩
  | some ad =>
    clear h0 hl0
    have hq := slice_is_nil Try.underlying23 (some ad) n cap w
    go_enter Try.func45, Try.ntmps45
    go_wp2_with (at_builtin; refine wpList_append_rw Try.elem_dirty Try.underlying23 z65_size (by decide) rfl (.tmp 5) (.tmp 6) rfl w.heap.size _ 0 [] rfl hown.out _ n (dv D) rfl hr.out (dv_one D) ?c1 ?c2 ?c3 w hb.out ?_)
    case c1 => omega
    case c2 => unfold maxLen; omega
    case c3 => simp
    intro v' w' ho hbl _
    go_wp2
    go_ret
    exact ⟨_, rfl, hbl, by simpa using ho⟩
end Go.Proofs.Ytmelkgmbiiobgaa

namespace Go.Proofs.Ytmelkgmbiiobgaa
open Go.ChangeShapes Go.WideShapes Go.ChangeAt Go.RowKit
set_option linter.unusedVariables false
set_option maxRecDepth 4000
set_option linter.unusedSimpArgs false
/-! More than is looked at? -/
end Go.Proofs.Ytmelkgmbiiobgaa

namespace Go.Proofs.Ytmelkgmbiiobgaa
open Go.ChangeShapes Go.WideShapes Go.ChangeAt Go.RowKit
set_option linter.unusedVariables false
set_option maxRecDepth 4000
set_option linter.unusedSimpArgs false
/-! Pure facts of a job: what Take leaves is as right as what came; how long it is. -/
end Go.Proofs.Ytmelkgmbiiobgaa

namespace Go.Proofs.Ytmelkgmbiiobgaa
open Go.ChangeShapes Go.WideShapes Go.ChangeAt Go.RowKit
set_option linter.unusedVariables false
set_option maxRecDepth 4000
set_option linter.unusedSimpArgs false
/-! Take of two parts, one behind the other, is Take of both at once. -/
end Go.Proofs.Ytmelkgmbiiobgaa

namespace Go.Proofs.Ytmelkgmbiiobgaa
open Go.ChangeShapes Go.WideShapes Go.ChangeAt Go.RowKit
set_option linter.unusedVariables false
set_option maxRecDepth 4000
set_option linter.unusedSimpArgs false
/-! How much stands dirty behind Take; its sense is a sense. -/
end Go.Proofs.Ytmelkgmbiiobgaa

namespace Go.Proofs.Ytmelkgmbiiobgaa
open Go.ChangeShapes Go.WideShapes Go.ChangeAt Go.RowKit
set_option linter.unusedVariables false
set_option maxRecDepth 4000
set_option linter.unusedSimpArgs false
/-! Variables of two results of a job; how much is looked at. -/
end Go.Proofs.Ytmelkgmbiiobgaa

namespace Go.Proofs.Ytmelkgmbiiobgaa
open Go.ChangeShapes Go.WideShapes Go.ChangeAt Go.RowKit
set_option linter.unusedVariables false
set_option maxRecDepth 4000
set_option linter.unusedSimpArgs false
/-! The landed job: who works at it has the unit and the job in new memory. -/
set_option maxHeartbeats 1000000 in
theorem clone3_c {v : Value} {n : Nat} {xs : List Value} (w : World) (h : Rw 3 w v n xs) (h1 : ∀ q ∈ xs, q.oneCell' = true) (hn : n ≤ 1000000) :
    Calls Try.prog 46 #[v] w fun e w' => ∃ v', e = .returned v' ∧ Later w w' ∧ w'.ownsRow w.heap.size 30 3 v' n xs ∧ ∀ k c, v = .slice none k c → v' = .slice none 0 0 := by
  have hown : Hid ((w.alloc (.cells #[] 30)).ownsRow w.heap.size 30 3 (.slice (some ⟨w.heap.size, 0, none⟩) 0 0) 0 []) := World.ownsRow_lit w #[] 0 (Nat.le_refl _) (by simp [maxLen]) rfl
  have hb : Hid (Below w.heap.size w (w.alloc (.cells #[] 30))) := (Below.refl _ _).alloc (Nat.le_refl _) _
  have hr := hide (h.later ((Later.refl w).alloc (.cells #[] 30)))
  have H1 := hide h1
  obtain ⟨hl0, _, a, cap, rfl, _, h0⟩ := h
  cases a with
  | none =>
    obtain rfl : n = 0 := by
      rcases h0 with h0 | ⟨b, off, e, _⟩
      · exact h0
      · cases e
    have hx : xs = [] := List.eq_nil_of_length_eq_zero (by rw [hl0])
    rw [hx]
    clear hown hb hr h0 hx hl0 h1 H1
    have hq := slice_is_nil Try.underlying28 none 0 cap w
    go_enter Try.func46, Try.ntmps46
    go_wp2
    go_ret
    exact ⟨_, rfl, Later.refl w, World.ownsRow_nil w _ _ _, fun _ _ _ => rfl⟩
  | some ad =>
    clear h0 hl0 h1
    have hq := slice_is_nil Try.underlying28 (some ad) n cap w
    go_enter Try.func46, Try.ntmps46
    go_wp2_with (at_builtin; refine wpList_append_rw Try.elem_sense Try.underlying28 rfl (by decide) rfl (.tmp 5) (.tmp 6) rfl w.heap.size _ 0 [] rfl hown.out _ n xs rfl hr.out H1.out ?c1 ?c2 ?c3 w hb.out ?_)
    case c1 => omega
    case c2 => unfold maxLen; omega
    case c3 => simp
    intro v' w' ho hbl _
    go_wp2
    go_ret
    exact ⟨_, rfl, hbl, by simpa using ho, fun _ _ e => by cases e⟩
set_option maxHeartbeats 1000000 in
theorem clone1_c {v : Value} {n : Nat} {xs : List Value} (w : World) (h : Rw 1 w v n xs) (h1 : ∀ q ∈ xs, q.oneCell' = true) (hn : n ≤ 1000000) :
    Calls Try.prog 43 #[v] w fun e w' => ∃ v', e = .returned v' ∧ Later w w' ∧ w'.ownsRow w.heap.size 5 1 v' n xs ∧ ∀ k c, v = .slice none k c → v' = .slice none 0 0 := by
  have hown : Hid ((w.alloc (.cells #[] 5)).ownsRow w.heap.size 5 1 (.slice (some ⟨w.heap.size, 0, none⟩) 0 0) 0 []) := World.ownsRow_lit w #[] 0 (Nat.le_refl _) (by simp [maxLen]) rfl
  have hb : Hid (Below w.heap.size w (w.alloc (.cells #[] 5))) := (Below.refl _ _).alloc (Nat.le_refl _) _
  have hr := hide (h.later ((Later.refl w).alloc (.cells #[] 5)))
  have H1 := hide h1
  obtain ⟨hl0, _, a, cap, rfl, _, h0⟩ := h
  cases a with
  | none =>
    obtain rfl : n = 0 := by
      rcases h0 with h0 | ⟨b, off, e, _⟩
      · exact h0
      · cases e
    have hx : xs = [] := List.eq_nil_of_length_eq_zero (by rw [hl0])
    rw [hx]
    clear hown hb hr h0 hx hl0 h1 H1
    have hq := slice_is_nil Try.underlying39 none 0 cap w
    go_enter Try.func43, Try.ntmps43
    go_wp2
    go_ret
    exact ⟨_, rfl, Later.refl w, World.ownsRow_nil w _ _ _, fun _ _ _ => rfl⟩
  | some ad =>
    clear h0 hl0 h1
    have hq := slice_is_nil Try.underlying39 (some ad) n cap w
    go_enter Try.func43, Try.ntmps43
    go_wp2_with (at_builtin; refine wpList_append_rw Try.elem_u8 Try.underlying39 rfl (by decide) rfl (.tmp 5) (.tmp 6) rfl w.heap.size _ 0 [] rfl hown.out _ n xs rfl hr.out H1.out ?c1 ?c2 ?c3 w hb.out ?_)
    case c1 => omega
    case c2 => unfold maxLen; omega
    case c3 => simp
    intro v' w' ho hbl _
    go_wp2
    go_ret
    exact ⟨_, rfl, hbl, by simpa using ho, fun _ _ e => by cases e⟩
theorem Try.info1_blocks10 : (Try.prog.info? 22).map (·.size) = some 1 := by kernel_rfl
theorem Try.info1_dirty10 : (Try.prog.info? 23).map (·.size) = some 1 := by kernel_rfl
theorem Try.info1_sns10 : (Try.prog.info? 28).map (·.size) = some 1 := by kernel_rfl
theorem owns_setBox10 {W : World} {B n sz : Nat} {e : TypeId} {v : Value} {xs : List Value} (h : W.ownsRow B e sz v n xs) {g : Nat} {t : TypeId} {cs : List Value} (hB : Box W g t cs) (ht : t ≠ e) (vs : List Value) (o : Nat) : (W.setCells g o vs).ownsRow B e sz v n xs :=
  owns_kept h fun k hk => heap_setCells_other W g k (fun e' => box_ne_own hB h ht k hk e'.symm) _ _
end Go.Proofs.Ytmelkgmbiiobgaa

namespace Go.Proofs.Ytmelkgmbiiobgaa
open Go.ChangeShapes Go.WideShapes Go.ChangeAt Go.RowKit
set_option linter.unusedVariables false
set_option maxRecDepth 4000
set_option linter.unusedSimpArgs false
/-! The landed intent: None, In, out. -/
set_option maxHeartbeats 1000000 in
theorem inone11_c (s : Sns) (w : World) : Calls Try.prog 18 #[sval s] w fun e w' => e = .returned (ival 0 0 none 0 0 (0, 0, 0, 0, 0) 0 0 none 0 0 (0, 0, 0) s) ∧ Later w w' := by
  have BX := hide ((Box.new w 30 #[.int .i64 s.1, .int .i64 s.2.1, .int .i64 s.2.2]).alloc (.cells zI.toArray 43))
  have BI : Hid (Box _ (w.heap.size + 1) 43 zI) := Box.new' (w.alloc (.cells #[.int .i64 s.1, .int .i64 s.2.1, .int .i64 s.2.2] 30)) 43 zI.toArray _ rfl _ (by simp)
  have LL := hide (((Later.refl w).alloc (.cells #[.int .i64 s.1, .int .i64 s.2.1, .int .i64 s.2.2] 30)).alloc (.cells zI.toArray 43))
  have x0 := BX.out.cell 0
  have x1 := BX.out.cell 1
  have x2 := BX.out.cell 2
  go_enter Try.func18, Try.ntmps18
  go_wp2_with (refine wpList_storeU rfl 43 (.tmp 2) (.tmp 4) rfl (w.heap.size + 1) 0 rfl (ic 0 0 none 0 0 (0, 0, 0, 0, 0) 0 0 none 0 0 (0, 0, 0) s) rfl Try.info_intent (ic_one _ _ _ _ _ _ _ _ _ _ _ _ _) _ _ BI.out (by simp) ?_)
  intro wz hz
  have BZ : Hid (Box wz (w.heap.size + 1) 43 (ic 0 0 none 0 0 (0, 0, 0, 0, 0) 0 0 none 0 0 (0, 0, 0) s)) := by rw [hz.out]; exact BI.out.all _ rfl
  have LZ : Hid (Later w wz) := by rw [hz.out]; exact LL.out.setCells (by omega) _ _
  clear hz
  go_wp2
  exact bodyPost_ret (results_cell1 rfl _ _ _ (w.heap.size + 1) 0 rfl (ival 0 0 none 0 0 (0, 0, 0, 0, 0) 0 0 none 0 0 (0, 0, 0) s) (load_intent BZ.out rfl)) rfl ⟨rfl, LZ.out⟩
theorem inone11 : INone11 := by
  intro s w hs
  refine (inone11_c s w).mono ?_
  rintro e w' ⟨rfl, hl⟩
  exact ⟨_, rfl, hl, IV.nil11 w' s⟩
/-- bytes as they were, in new memory -/
theorem clone1m_c {v : Value} {n : Nat} {xs : List Value} (w : World) (h : Rw 1 w v n xs) (h1 : ∀ q ∈ xs, q.oneCell' = true) (hn : n ≤ 1000000) :
    Calls Try.prog 43 #[v] w fun e w' => ∃ v', e = .returned v' ∧ Later w w' ∧ w'.ownsRow w.heap.size 5 1 v' n xs := (clone1_c w h h1 hn).mono fun e w' ⟨v', h1, h2, h3, _⟩ => ⟨v', h1, h2, h3⟩
set_option maxRecDepth 20000 in
set_option maxHeartbeats 2000000 in
theorem iin11 : IIn11 := by
  intro v L s w h hok hln
  have h2 := h
  obtain ⟨hm, ax, cx, rfl, hc, -⟩ := h2
  have HB := hide h
  have HO := hide hok
  have HI : Hid (inI L s = if s = (0, 0, 0) ∧ L.length ≠ 0 then (1, (L.length : Int), L, (0, 0, 0, 0, 0), 0, (0, 0, 0)) else noneI s) := rfl
  obtain ⟨k, hk⟩ : ∃ k, k = L.length := ⟨_, rfl⟩
  have HK := hide hk
  rw [← hk] at HB HI hm hln ⊢
  have hk2 : k ≤ 9223372036854775807 := by unfold maxLen at hm; omega
  clear h hm hc hk hok
  have BX := hide ((Box.new w 30 #[.int .i64 s.1, .int .i64 s.2.1, .int .i64 s.2.2]).alloc (.cells zI.toArray 43))
  have BI : Hid (Box _ (w.heap.size + 1) 43 zI) := Box.new' (w.alloc (.cells #[.int .i64 s.1, .int .i64 s.2.1, .int .i64 s.2.2] 30)) 43 zI.toArray _ rfl _ (by simp)
  have LL := hide (((Later.refl w).alloc (.cells #[.int .i64 s.1, .int .i64 s.2.1, .int .i64 s.2.2] 30)).alloc (.cells zI.toArray 43))
  have x0 := BX.out.cell 0
  have x1 := BX.out.cell 1
  have x2 := BX.out.cell 2
  go_enter Try.func16, Try.ntmps16
  by_cases h0 : k = 0
  · have e0 : ((k : Int) == (0 : Int)) = true := by simp; omega
    replace HI : Hid (inI L s = noneI s) := by rw [Hid, HI.out, if_neg (fun h => h.2 h0)]
    clear h0
    go_wp2_with fail
    refine (inone11_c s _).mono ?_
    rintro e w2 ⟨rfl, hl⟩
    replace BI := hide (BI.out.later hl)
    replace LL := hide (LL.out.trans hl)
    clear hl x0 x1 x2
    go_wp2_with (refine wpList_storeU rfl 43 (.tmp 4) (.tmp 14) rfl (w.heap.size + 1) 0 rfl (ic 0 0 none 0 0 (0, 0, 0, 0, 0) 0 0 none 0 0 (0, 0, 0) s) rfl Try.info_intent (ic_one _ _ _ _ _ _ _ _ _ _ _ _ _) _ _ BI.out (by simp) ?_)
    intro wz hz
    have BZ : Hid (Box wz (w.heap.size + 1) 43 (ic 0 0 none 0 0 (0, 0, 0, 0, 0) 0 0 none 0 0 (0, 0, 0) s)) := by rw [hz.out]; exact BI.out.all _ rfl
    have LZ : Hid (Later w wz) := by rw [hz.out]; exact LL.out.setCells (by omega) _ _
    clear hz
    go_wp2
    refine bodyPost_ret (results_cell1 rfl _ _ _ (w.heap.size + 1) 0 rfl (ival 0 0 none 0 0 (0, 0, 0, 0, 0) 0 0 none 0 0 (0, 0, 0) s) (load_intent BZ.out rfl)) rfl ⟨_, rfl, LZ.out, ?_⟩
    rw [HI.out]
    exact IV.nil11 _ s
  · have e0 : ((k : Int) == (0 : Int)) = false := by simp; omega
    go_wp2_with fail
    refine (sgood_c s _ HO.out).mono ?_
    rintro e w1 ⟨rfl, hl⟩
    replace BX := hide (BX.out.later hl)
    replace BI := hide (BI.out.later hl)
    replace LL := hide (LL.out.trans hl)
    clear hl x0 x1 x2
    have x0 := BX.out.cell 0
    have x1 := BX.out.cell 1
    have x2 := BX.out.cell 2
    by_cases hs : s = (0, 0, 0)
    · have es : (s == (0, 0, 0)) = true := by simp [hs]
      replace HI : Hid (inI L s = (1, (k : Int), L, (0, 0, 0, 0, 0), 0, (0, 0, 0))) := by rw [Hid, HI.out, if_pos ⟨hs, h0⟩]
      rw [es]
      clear hs h0 es
      go_wp2_with fail
      refine (clone1m_c _ (by have := (HB.out.later LL.out).rw; rwa [← HK.out] at this) (bv_one L) hln).mono ?_
      rintro e w2 ⟨v2, rfl, hl, ho⟩
      obtain ⟨a2, c2, rfl⟩ := (Rw.of_owns ho).shape
      have O := hide ho
      replace BI := hide (BI.out.later hl)
      replace LL := hide (LL.out.trans hl)
      clear hl x0 x1 x2 ho
      go_wp2_with (refine wpList_storeU rfl 43 (.tmp 4) (.tmp 19) rfl (w.heap.size + 1) 0 rfl (ic 1 (k : Int) a2 k c2 (0, 0, 0, 0, 0) 0 0 none 0 0 (0, 0, 0) (0, 0, 0)) rfl Try.info_intent (ic_one _ _ _ _ _ _ _ _ _ _ _ _ _) _ _ BI.out (by simp) ?_)
      intro wz hz
      have BZ : Hid (Box wz (w.heap.size + 1) 43 (ic 1 (k : Int) a2 k c2 (0, 0, 0, 0, 0) 0 0 none 0 0 (0, 0, 0) (0, 0, 0))) := by rw [hz.out]; exact BI.out.all _ rfl
      have LZ : Hid (Later w wz) := by rw [hz.out]; exact LL.out.setCells (by omega) _ _
      have BB : Hid (Bs wz (.slice a2 k c2) L) := by
        have h := ((Rw.of_owns O.out).bs.1).setNoB BI.out (ic_nob _ _ _ _ _ _ _ _ _ _ _ _ _) (ic 1 (k : Int) a2 k c2 (0, 0, 0, 0, 0) 0 0 none 0 0 (0, 0, 0) (0, 0, 0)) 0
        rw [← hz.out] at h
        exact h
      clear hz
      go_wp2
      refine bodyPost_ret (results_cell1 rfl _ _ _ (w.heap.size + 1) 0 rfl (ival 1 (k : Int) a2 k c2 (0, 0, 0, 0, 0) 0 0 none 0 0 (0, 0, 0) (0, 0, 0)) (load_intent BZ.out rfl)) rfl ⟨_, rfl, LZ.out, ?_⟩
      rw [HI.out]
      refine ⟨a2, c2, none, 0, by rw [HK.out], ?_⟩
      have := BB.out
      rwa [HK.out] at this
    · have es : (s == (0, 0, 0)) = false := by simpa using hs
      replace HI : Hid (inI L s = noneI s) := by rw [Hid, HI.out, if_neg (fun h => hs h.1)]
      rw [es]
      clear hs h0 es
      go_wp2_with fail
      refine (inone11_c s _).mono ?_
      rintro e w2 ⟨rfl, hl⟩
      replace BI := hide (BI.out.later hl)
      replace LL := hide (LL.out.trans hl)
      clear hl x0 x1 x2
      go_wp2_with (refine wpList_storeU rfl 43 (.tmp 4) (.tmp 14) rfl (w.heap.size + 1) 0 rfl (ic 0 0 none 0 0 (0, 0, 0, 0, 0) 0 0 none 0 0 (0, 0, 0) s) rfl Try.info_intent (ic_one _ _ _ _ _ _ _ _ _ _ _ _ _) _ _ BI.out (by simp) ?_)
      intro wz hz
      have BZ : Hid (Box wz (w.heap.size + 1) 43 (ic 0 0 none 0 0 (0, 0, 0, 0, 0) 0 0 none 0 0 (0, 0, 0) s)) := by rw [hz.out]; exact BI.out.all _ rfl
      have LZ : Hid (Later w wz) := by rw [hz.out]; exact LL.out.setCells (by omega) _ _
      clear hz
      go_wp2
      refine bodyPost_ret (results_cell1 rfl _ _ _ (w.heap.size + 1) 0 rfl (ival 0 0 none 0 0 (0, 0, 0, 0, 0) 0 0 none 0 0 (0, 0, 0) s) (load_intent BZ.out rfl)) rfl ⟨_, rfl, LZ.out, ?_⟩
      rw [HI.out]
      exact IV.nil11 _ s
end Go.Proofs.Ytmelkgmbiiobgaa
