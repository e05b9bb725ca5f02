import Derived.Test.YtphgjofiploahaaR3f
namespace Go.Proofs.Ytphgjofiploahaa
open Go.ChangeShapes Go.WideShapes Go.ChangeAt Go.RowKit
set_option linter.unusedVariables false
set_option linter.unusedSimpArgs false

def flushOk (n : Nat) (at_ m : Int) : Bool := decide (0 ≤ at_ ∧ 0 ≤ m ∧ at_ ≤ n)
def flushTo (n : Nat) (at_ m : Int) : Int := if m = 0 ∨ (n : Int) - at_ < m then n else at_ + m
def flushE (n : Nat) (D : List Drt) (at_ m : Int) : Int := if rightB n D then (if flushOk n at_ m then 0 else 5) else 1
def flushF (n : Nat) (F : List UInt8) (D : List Drt) (at_ m : Int) : List UInt8 := if flushE n D at_ m = 0 then app F (D.filter (inR at_ (flushTo n at_ m))) else []
def flushD (n : Nat) (D : List Drt) (at_ m : Int) : List Drt := if flushE n D at_ m = 0 then D.filter (fun d => !inR at_ (flushTo n at_ m) d) else []
def flushN (n : Nat) (D : List Drt) (at_ m : Int) : Nat := if flushE n D at_ m = 0 then n else 0

theorem Med.nil (w : World) : Med w (.agg #[.slice none 0 0, .slice none 0 0]) 0 [] [] := ⟨_, _, rfl, Rw.nil 64 w, Rw.nil 65 w, fun d hd => by cases hd⟩
theorem Ok.filter {D : List Drt} (h : Ok D) (p : Drt → Bool) : Ok (D.filter p) := fun d hd => h d (List.mem_filter.1 hd).1

set_option maxHeartbeats 1000000 in
theorem rflush_c {v : Value} {n : Nat} {F : List UInt8} {D : List Drt} (at_ m : Int) (w : World) (h : Med w v n F D) (ha : -9223372036854775808 ≤ at_) (ha' : at_ ≤ 9223372036854775807) (hm : -9223372036854775808 ≤ m) (hm' : m ≤ 9223372036854775807) :
    Calls Try.prog 22 #[v, .int .i64 at_, .int .i64 m] w fun e w' => ∃ v', e = .returned (.tuple #[v', .int .i64 (flushE n D at_ m)]) ∧ Later w w' ∧ Med w' v' (flushN n D at_ m) (flushF n F D at_ m) (flushD n D at_ m) := by
  have HM := hide h
  obtain ⟨vb, vd, rfl, hb, hd, hok⟩ := h
  obtain ⟨ab, cb, rfl⟩ := hb.shape
  obtain ⟨k, hk⟩ : ∃ k, k = D.length := ⟨_, rfl⟩
  rw [← hk] at hd
  obtain ⟨aD, cD, rfl⟩ := hd.shape
  have hnm := hb.2.1
  unfold maxLen at hnm
  have HO := hide hok
  have HK := hide hk
  clear hb hd hk hok
  go_enter Try.func22, Try.ntmps22
  go_wp2_with fail
  refine (rright_c _ (HM.out.later (((Later.refl w).alloc _).alloc _))).mono ?_
  rintro e w2 ⟨rfl, hl2⟩
  have L2 : Hid (Later w w2) := Later.trans (((Later.refl w).alloc _).alloc _) hl2
  have BX : Hid (Box w2 w.heap.size 25 [.slice ab n cb, .slice aD k cD]) := Box.later ((Box.new w 25 #[.slice ab n cb, .slice aD k cD]).alloc _) hl2
  have BR : Hid (Box w2 (w.heap.size + 1) 25 [.slice none 0 0, .slice none 0 0]) := Box.later (Box.new' _ _ _ _ rfl _ (by simp)) hl2
  clear hl2
  have d0 := BX.out.cell 0
  have d1 := BX.out.cell 1
  have r0 := BR.out.cell 0
  have r1 := BR.out.cell 1
  have f0 := BR.out.frozen 0
  have f1 := BR.out.frozen 1
  have BZ : Hid (Box ((w2.setCell ⟨w.heap.size + 1, 0, none⟩ (.slice none 0 0)).setCell ⟨w.heap.size + 1, 1, none⟩ (.slice none 0 0)) (w.heap.size + 1) 25 [.slice none 0 0, .slice none 0 0]) := (BR.out.set 0 _).set 1 _
  have LZ : Hid (Later w ((w2.setCell ⟨w.heap.size + 1, 0, none⟩ (.slice none 0 0)).setCell ⟨w.heap.size + 1, 1, none⟩ (.slice none 0 0))) := (L2.out.setCell (by simp) _).setCell (by simp) _
  by_cases hR : rightB n D = true
  case neg =>
    have hR' : rightB n D = false := by simpa using hR
    rw [hR']
    go_wp2
    refine bodyPost_ret (results_cell_tmp rfl _ _ _ (w.heap.size + 1) 0 rfl (.agg #[.slice none 0 0, .slice none 0 0]) (.int .i64 1) (run_loadVar_mid _ _ _ _ [.slice none 0 0, .slice none 0 0] _ BZ.out.range Try.underlying25 rfl (by kernel_rfl)) rfl) rfl ⟨.agg #[.slice none 0 0, .slice none 0 0], ?_, LZ.out, ?_⟩
    · simp [flushE, hR']
    · simpa [flushE, flushN, flushF, flushD, hR'] using Med.nil _
  rw [hR]
  by_cases hin : flushOk n at_ m = true
  case neg =>
    have hE : Hid (flushE n D at_ m = 5) := by simp [Hid, flushE, hR, hin]
    have hin' : ¬ (0 ≤ at_ ∧ 0 ≤ m ∧ at_ ≤ n) := by simpa [flushOk] using hin
    clear hin
    by_cases c1 : at_ < 0
    · go_wp2
      refine bodyPost_ret (results_cell_tmp rfl _ _ _ (w.heap.size + 1) 0 rfl (.agg #[.slice none 0 0, .slice none 0 0]) (.int .i64 5) (run_loadVar_mid _ _ _ _ [.slice none 0 0, .slice none 0 0] _ BZ.out.range Try.underlying25 rfl (by kernel_rfl)) rfl) rfl ⟨.agg #[.slice none 0 0, .slice none 0 0], by rw [hE.out], LZ.out, ?_⟩
      simpa [flushN, flushF, flushD, hE.out] using Med.nil _
    · by_cases c2 : m < 0
      · go_wp2
        refine bodyPost_ret (results_cell_tmp rfl _ _ _ (w.heap.size + 1) 0 rfl (.agg #[.slice none 0 0, .slice none 0 0]) (.int .i64 5) (run_loadVar_mid _ _ _ _ [.slice none 0 0, .slice none 0 0] _ BZ.out.range Try.underlying25 rfl (by kernel_rfl)) rfl) rfl ⟨.agg #[.slice none 0 0, .slice none 0 0], by rw [hE.out], LZ.out, ?_⟩
        simpa [flushN, flushF, flushD, hE.out] using Med.nil _
      · have c3 : (n : Int) < at_ := by omega
        go_wp2
        refine bodyPost_ret (results_cell_tmp rfl _ _ _ (w.heap.size + 1) 0 rfl (.agg #[.slice none 0 0, .slice none 0 0]) (.int .i64 5) (run_loadVar_mid _ _ _ _ [.slice none 0 0, .slice none 0 0] _ BZ.out.range Try.underlying25 rfl (by kernel_rfl)) rfl) rfl ⟨.agg #[.slice none 0 0, .slice none 0 0], by rw [hE.out], LZ.out, ?_⟩
        simpa [flushN, flushF, flushD, hE.out] using Med.nil _
  have hin' : 0 ≤ at_ ∧ 0 ≤ m ∧ at_ ≤ n := by simpa [flushOk] using hin
  have hE : Hid (flushE n D at_ m = 0) := by simp [Hid, flushE, hR, hin]
  have hR2 := hR
  simp only [rightB, decide_eq_true_eq] at hR2
  have hn64 := hR2.1
  have HL := hide hR2.2.1
  have HFit := hide (fit_of_right hR HO.out)
  have c1 : ¬ at_ < 0 := by omega
  have c2 : ¬ m < 0 := by omega
  have c3 : ¬ (n : Int) < at_ := by omega
  clear hin hR2 hR
  have hT : Hid (∀ T, T = flushTo n at_ m → ∀ w', Later w w' → Calls Try.prog 30 #[.agg #[.slice ab n cb, .slice aD k cD], .int .i64 at_, .int .i64 T] w' fun e w'' => ∃ vb vd, e = .returned (.agg #[vb, vd]) ∧ Later w' w'' ∧
      w''.ownsRow w'.heap.size 27 64 vb n (bv (flushF n F D at_ m)) ∧ w''.ownsRow w'.heap.size 53 65 vd (flushD n D at_ m).length (dv (flushD n D at_ m))) := by
    intro T hT w' hl
    have := rflushed_c at_ T w' (HM.out.later hl) hn64 HL.out HFit.out
    rw [hT] at this ⊢
    simpa [flushF, flushD, hE.out] using this
  have hend : Hid (∀ (w8 : World) (a3 a6 : Option Addr) (c3 m6 c6 : Nat), m6 = (flushD n D at_ m).length → Box w8 (w.heap.size + 1) 25 [.slice none 0 0, .slice none 0 0] → Later w w8 → w8.ownsRow w.heap.size 27 64 (.slice a3 n c3) n (bv (flushF n F D at_ m)) → w8.ownsRow w.heap.size 53 65 (.slice a6 m6 c6) m6 (dv (flushD n D at_ m)) →
      Box ((w8.setCell ⟨w.heap.size + 1, 0, none⟩ (.slice a3 n c3)).setCell ⟨w.heap.size + 1, 1, none⟩ (.slice a6 m6 c6)) (w.heap.size + 1) 25 [.slice a3 n c3, .slice a6 m6 c6] ∧ Later w ((w8.setCell ⟨w.heap.size + 1, 0, none⟩ (.slice a3 n c3)).setCell ⟨w.heap.size + 1, 1, none⟩ (.slice a6 m6 c6)) ∧
      Med ((w8.setCell ⟨w.heap.size + 1, 0, none⟩ (.slice a3 n c3)).setCell ⟨w.heap.size + 1, 1, none⟩ (.slice a6 m6 c6)) (.agg #[.slice a3 n c3, .slice a6 m6 c6]) (flushN n D at_ m) (flushF n F D at_ m) (flushD n D at_ m)) := by
    intro w8 a3 a6 c3 m6 c6 hm6 hB hl h1 h2
    have hne : ∀ g, g ≠ w.heap.size + 1 → ((w8.setCell ⟨w.heap.size + 1, 0, none⟩ (.slice a3 n c3)).setCell ⟨w.heap.size + 1, 1, none⟩ (.slice a6 m6 c6)).heap[g]? = w8.heap[g]? := fun g hg => by
      rw [heap_setCell_other _ _ _ _ (by simpa using hg), heap_setCell_other _ _ _ _ (by simpa using hg)]
    have e1 := owns_kept h1 fun g hg => hne g (fun e => box_ne_own hB h1 (by decide) g hg e.symm)
    have e2 := owns_kept h2 fun g hg => hne g (fun e => box_ne_own hB h2 (by decide) g hg e.symm)
    refine ⟨(hB.set 0 _).set 1 _, (hl.setCell (by simp) _).setCell (by simp) _, _, _, rfl, ?_, ?_, ?_⟩
    · rw [show flushN n D at_ m = n from by simp [flushN, hE.out]]; exact Rw.of_owns e1
    · rw [← hm6]; exact Rw.of_owns e2
    · unfold flushD; rw [if_pos hE.out]; exact HO.out.filter _
  have hw1 : IntKind.i64.wrap ((n : Int) - at_) = (n : Int) - at_ := by rw [IntKind.wrap_i64]; omega
  have hw2 : IntKind.i64.wrap (at_ + ((n : Int) - at_)) = at_ + ((n : Int) - at_) := by rw [IntKind.wrap_i64]; omega
  by_cases hm0 : m = 0
  · have hmb : (m == 0) = true := by simpa using hm0
    have hd0 := d0
    clear r0 r1 f0 f1 BZ LZ
    go_wp2_with fail
    refine (hT.out _ ?eqT w2 L2.out).mono ?_
    case eqT => (unfold flushTo; split <;> omega)
    rintro e w3 ⟨vb, vd, rfl, hl3, h1, h2⟩
    have L3 := L2.out.trans hl3
    have BR3 := Box.later BR.out hl3
    obtain ⟨a3, c3', rfl⟩ := (Rw.of_owns h1).shape
    obtain ⟨m6, hm6⟩ : ∃ m6, m6 = (flushD n D at_ m).length := ⟨_, rfl⟩
    rw [← hm6] at h2
    obtain ⟨a6, c6, rfl⟩ := (Rw.of_owns h2).shape
    have HE := hide (hend.out w3 a3 a6 c3' m6 c6 hm6 BR3 L3 (h1.mono L2.out.size) (h2.mono L2.out.size))
    have r0 := BR3.cell 0
    have r1 := BR3.cell 1
    have f0 := BR3.frozen 0
    have f1 := BR3.frozen 1
    clear h1 h2 hl3 L3 BR3 hend hT hm6
    go_wp2
    exact bodyPost_ret (results_cell_tmp rfl _ _ _ (w.heap.size + 1) 0 rfl (.agg #[.slice a3 n c3', .slice a6 m6 c6]) (.int .i64 0) (run_loadVar_mid _ _ _ _ [.slice a3 n c3', .slice a6 m6 c6] _ HE.out.1.range Try.underlying25 rfl (by kernel_rfl)) rfl) rfl ⟨.agg #[.slice a3 n c3', .slice a6 m6 c6], by rw [hE.out], HE.out.2.1, HE.out.2.2⟩
  · have hmb : (m == 0) = false := by rw [beq_eq_false_iff_ne]; exact hm0
    by_cases hmn : (n : Int) - at_ < m
    · skip
      clear r0 r1 f0 f1 BZ LZ
      go_wp2_with fail
      refine (hT.out _ ?eqT w2 L2.out).mono ?_
      case eqT => (unfold flushTo; split <;> omega)
      rintro e w3 ⟨vb, vd, rfl, hl3, h1, h2⟩
      have L3 := L2.out.trans hl3
      have BR3 := Box.later BR.out hl3
      obtain ⟨a3, c3', rfl⟩ := (Rw.of_owns h1).shape
      obtain ⟨m6, hm6⟩ : ∃ m6, m6 = (flushD n D at_ m).length := ⟨_, rfl⟩
      rw [← hm6] at h2
      obtain ⟨a6, c6, rfl⟩ := (Rw.of_owns h2).shape
      have HE := hide (hend.out w3 a3 a6 c3' m6 c6 hm6 BR3 L3 (h1.mono L2.out.size) (h2.mono L2.out.size))
      have r0 := BR3.cell 0
      have r1 := BR3.cell 1
      have f0 := BR3.frozen 0
      have f1 := BR3.frozen 1
      clear h1 h2 hl3 L3 BR3 hend hT hm6
      go_wp2
      exact bodyPost_ret (results_cell_tmp rfl _ _ _ (w.heap.size + 1) 0 rfl (.agg #[.slice a3 n c3', .slice a6 m6 c6]) (.int .i64 0) (run_loadVar_mid _ _ _ _ [.slice a3 n c3', .slice a6 m6 c6] _ HE.out.1.range Try.underlying25 rfl (by kernel_rfl)) rfl) rfl ⟨.agg #[.slice a3 n c3', .slice a6 m6 c6], by rw [hE.out], HE.out.2.1, HE.out.2.2⟩
    · have hw3 : IntKind.i64.wrap (at_ + m) = at_ + m := by rw [IntKind.wrap_i64]; omega
      clear r0 r1 f0 f1 BZ LZ
      go_wp2_with fail
      refine (hT.out _ ?eqT w2 L2.out).mono ?_
      case eqT => (unfold flushTo; split <;> omega)
      rintro e w3 ⟨vb, vd, rfl, hl3, h1, h2⟩
      have L3 := L2.out.trans hl3
      have BR3 := Box.later BR.out hl3
      obtain ⟨a3, c3', rfl⟩ := (Rw.of_owns h1).shape
      obtain ⟨m6, hm6⟩ : ∃ m6, m6 = (flushD n D at_ m).length := ⟨_, rfl⟩
      rw [← hm6] at h2
      obtain ⟨a6, c6, rfl⟩ := (Rw.of_owns h2).shape
      have HE := hide (hend.out w3 a3 a6 c3' m6 c6 hm6 BR3 L3 (h1.mono L2.out.size) (h2.mono L2.out.size))
      have r0 := BR3.cell 0
      have r1 := BR3.cell 1
      have f0 := BR3.frozen 0
      have f1 := BR3.frozen 1
      clear h1 h2 hl3 L3 BR3 hend hT hm6
      go_wp2
      exact bodyPost_ret (results_cell_tmp rfl _ _ _ (w.heap.size + 1) 0 rfl (.agg #[.slice a3 n c3', .slice a6 m6 c6]) (.int .i64 0) (run_loadVar_mid _ _ _ _ [.slice a3 n c3', .slice a6 m6 c6] _ HE.out.1.range Try.underlying25 rfl (by kernel_rfl)) rfl) rfl ⟨.agg #[.slice a3 n c3', .slice a6 m6 c6], by rw [hE.out], HE.out.2.1, HE.out.2.2⟩
end Go.Proofs.Ytphgjofiploahaa
