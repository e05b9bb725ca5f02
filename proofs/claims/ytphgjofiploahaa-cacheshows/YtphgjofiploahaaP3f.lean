import Derived.Test.YtphgjofiploahaaP3e
namespace Go.Proofs.Ytphgjofiploahaa
open Go.ChangeShapes Go.WideShapes Go.ChangeAt Go.RowKit
set_option linter.unusedVariables false
set_option linter.unusedSimpArgs false

/-! The landed cache: Write and Flush. -/
theorem owns_off {w : World} {B : Nat} {e : TypeId} {sz : Nat} {v : Value} {n : Nat} {xs : List Value} (h : w.ownsRow B e sz v n xs) {g : Nat} (hg : g < B) : OffS g v := by
  rcases h.2 with ⟨rfl, _⟩ | ⟨g', cap, cur, rfl, hb, _⟩
  · trivial
  · exact .inr (by simp; omega)
theorem wrE_yes {n : Nat} {D : List Drt} {at_ : Int} (h : wrE n D at_ = 0) : rightB n D = true ∧ 0 ≤ at_ ∧ at_ < n := showE_yes (D := D) h
/-- what is returned: a medium in new memory, and how it went -/
theorem med_of_owns {w w' : World} {vb vd : Value} {n : Nat} {F : List UInt8} {D : List Drt} (ho : Ok D) (h1 : w'.ownsRow w.heap.size 27 64 vb n (bv F)) (h2 : w'.ownsRow w.heap.size 53 65 vd D.length (dv D)) :
    Med w' (.agg #[vb, vd]) n F D ∧ ∀ g, g < w.heap.size → OffM g (.agg #[vb, vd]) :=
  ⟨⟨vb, vd, rfl, Rw.of_owns h1, Rw.of_owns h2, ho⟩, fun g hg => ⟨vb, vd, rfl, owns_off h1 hg, owns_off h2 hg⟩⟩

set_option maxRecDepth 20000 in
set_option maxHeartbeats 1000000 in
theorem cwrite_x : IWriteX := by
  intro v n F D at_ X th w h hX ha ha'
  have HM := hide h
  obtain ⟨vb, vd, rfl, hb, hd, hok⟩ := h
  obtain ⟨ab, cb, rfl⟩ := hb.shape
  obtain ⟨k, hk⟩ : ∃ k, k = D.length := ⟨_, rfl⟩
  rw [← hk] at hd
  obtain ⟨aD, cD, rfl⟩ := hd.shape
  have HO := hide hok
  have HX := hide hX
  clear hb hd hk hok hX
  go_enter Try.func11, Try.ntmps11
  go_wp2_with fail
  refine (ccheck_c at_ _ (HM.out.later ((((Later.refl w).alloc _).alloc _).alloc _))).mono ?_
  rintro e w2 ⟨rfl, hl2⟩
  have L2 : Hid (Later w w2) := Later.trans ((((Later.refl w).alloc _).alloc _).alloc _) hl2
  have BX : Hid (Box w2 w.heap.size 25 [.slice ab n cb, .slice aD k cD]) := Box.later ((Box.new w 25 #[.slice ab n cb, .slice aD k cD]).alloc _ |>.alloc _) hl2
  have BR : Hid (Box w2 (w.heap.size + 1 + 1) 25 [.slice none 0 0, .slice none 0 0]) := Box.later (Box.new' _ _ _ _ rfl _ (by simp)) hl2
  have BD : Hid (Box w2 (w.heap.size + 1) 27 (bv X)) := Box.later ((Box.new' _ _ _ _ (by simp) _ (by simp)).alloc _) hl2
  clear hl2
  have d0 := BX.out.cell 0
  have d1 := BX.out.cell 1
  have r0 := BR.out.cell 0
  have r1 := BR.out.cell 1
  have f0 := BR.out.frozen 0
  have f1 := BR.out.frozen 1
  rw [show showE n D at_ = wrE n D at_ from rfl]
  by_cases hR : wrE n D at_ = 0
  case neg =>
    have hN : Hid (wrN n D at_ = 0 ∧ wrF n F D at_ X th = [] ∧ wrD n D at_ X th = []) := by simp [Hid, wrN, wrF, wrD, hR]
    have hne : (wrE n D at_ != 0) = true := by rw [bne_iff_ne]; exact hR
    have BZ : Hid (Box ((w2.setCell ⟨w.heap.size + 1 + 1, 0, none⟩ (.slice none 0 0)).setCell ⟨w.heap.size + 1 + 1, 1, none⟩ (.slice none 0 0)) (w.heap.size + 1 + 1) 25 [.slice none 0 0, .slice none 0 0]) := (BR.out.set 0 _).set 1 _
    have LZ : Hid (Later w ((w2.setCell ⟨w.heap.size + 1 + 1, 0, none⟩ (.slice none 0 0)).setCell ⟨w.heap.size + 1 + 1, 1, none⟩ (.slice none 0 0))) := (L2.out.setCell (by simp; omega) _).setCell (by simp; omega) _
    generalize hE : wrE n D at_ = er at *
    have HE := hide hE
    clear hE
    go_wp2
    refine bodyPost_ret (results_cell_tmp rfl _ _ _ (w.heap.size + 1 + 1) 0 rfl (.agg #[.slice none 0 0, .slice none 0 0]) (.int .i64 er) (run_loadVar_mid _ _ _ _ [.slice none 0 0, .slice none 0 0] _ BZ.out.range Try.underlying25 rfl (by kernel_rfl)) rfl) rfl ⟨.agg #[.slice none 0 0, .slice none 0 0], by rw [HE.out], LZ.out, ?_, fun g _ => ⟨_, _, rfl, trivial, trivial⟩⟩
    rw [hN.out.1, hN.out.2.1, hN.out.2.2]
    exact Med.nil _
  have hy := wrE_yes hR
  have hE := hide hR
  have hp := right_parts hy.1
  have HFit := hide (fit_of_right hy.1 HO.out)
  have hn64 := hp.1
  have HKL := hide hp.2
  rw [hR]
  obtain ⟨z, rfl⟩ := Int.eq_ofNat_of_zero_le hy.2.1
  have hzn : z < n := by have := hy.2.2; omega
  have hdt := hide BD.out.range
  clear hR hy hp
  cases th with
  | true =>
    have hF : Hid (wrF n F D z X true = over (app F (D.filter (inR z (z + 1)))) (z * 64) X) := by simp [Hid, wrF, hE.out]
    have hD : Hid (wrD n D z X true = D.filter fun d => !inR z (z + 1) d) := by simp [Hid, wrD, hE.out]
    have hN : Hid (wrN n D z = n) := by simp [Hid, wrN, hE.out]
    go_wp2_with (refine wpList_load_mid rfl 27 (.tmp 6) rfl (w.heap.size + 1) 0 rfl (bv X) _ hdt.out Try.underlying27 rfl (by rw [Try.info_block, bv_length, HX.out]) ?_)
    refine (cwt_i z X w2 (HM.out.later L2.out) hn64 HKL.out HFit.out hzn HX.out).mono ?_
    rintro e w3 ⟨vb, vd, rfl, hl3, h1, h2⟩
    have L3 := hide (L2.out.trans hl3)
    have BR3 := hide (Box.later BR.out hl3)
    have O1 : Hid (w3.ownsRow w.heap.size 27 64 vb n (bv (over (app F (D.filter (inR z (z + 1)))) (z * 64) X))) := owns_rebase h1 L2.out.size
    have O2 : Hid (w3.ownsRow w.heap.size 53 65 vd (D.filter fun d => !inR z (z + 1) d).length (dv (D.filter fun d => !inR z (z + 1) d))) := owns_rebase h2 L2.out.size
    clear hl3 h1 h2 r0 r1 f0 f1 d0 d1
    obtain ⟨a3, c3, rfl⟩ := (Rw.of_owns O1.out).shape
    generalize hm6 : (D.filter fun d => !inR z (z + 1) d).length = m6 at *
    have HM6 := hide hm6
    clear hm6
    obtain ⟨a6, c6, rfl⟩ := (Rw.of_owns O2.out).shape
    have HE := hide (med_ret (by omega) BR3.out L3.out O1.out O2.out)
    have r0 := BR3.out.cell 0
    have r1 := BR3.out.cell 1
    have f0 := BR3.out.frozen 0
    have f1 := BR3.out.frozen 1
    clear O1 O2 L3
    go_wp2
    have HEE := med_of_owns (F := (over (app F (D.filter (inR z (z + 1)))) (z * 64) X)) (D := D.filter fun d => !inR z (z + 1) d) (HO.out.filter _) HE.out.2.2.1 (by rw [HM6.out]; exact HE.out.2.2.2)
    exact bodyPost_ret (results_cell_tmp rfl _ _ _ (w.heap.size + 1 + 1) 0 rfl (.agg #[.slice a3 n c3, .slice a6 m6 c6]) (.int .i64 0) (run_loadVar_mid _ _ _ _ [.slice a3 n c3, .slice a6 m6 c6] _ HE.out.1.range Try.underlying25 rfl (by kernel_rfl)) rfl) rfl ⟨.agg #[.slice a3 n c3, .slice a6 m6 c6], by rw [hE.out], HE.out.2.1, by rw [hN.out, hF.out, hD.out]; exact HEE⟩
  | false =>
    have hF : Hid (wrF n F D z X false = wcF n F D) := by simp [Hid, wrF, wcF, hE.out]
    have hD : Hid (wrD n D z X false = wcD n D ++ [((z : Int), X)]) := by simp [Hid, wrD, wcD, hE.out]
    have hN : Hid (wrN n D z = n) := by simp [Hid, wrN, hE.out]
    have HOk : Hid (Ok (wcD n D ++ [((z : Int), X)])) := by
      refine Ok.append ?_ fun d hd => ?_
      · unfold wcD
        split
        · exact HO.out.filter _
        · exact HO.out
      · have : d = ((z : Int), X) := by simpa using hd
        subst this
        exact ⟨HX.out, by omega, by omega⟩
    go_wp2_with (refine wpList_load_mid rfl 27 (.tmp 6) rfl (w.heap.size + 1) 0 rfl (bv X) _ hdt.out Try.underlying27 rfl (by rw [Try.info_block, bv_length, HX.out]) ?_)
    refine (cwc_i z X w2 (HM.out.later L2.out) hn64 HKL.out HFit.out hzn HX.out).mono ?_
    rintro e w3 ⟨vb, vd, rfl, hl3, h1, h2⟩
    have L3 := hide (L2.out.trans hl3)
    have BR3 := hide (Box.later BR.out hl3)
    have O1 : Hid (w3.ownsRow w.heap.size 27 64 vb n (bv (wcF n F D))) := owns_rebase h1 L2.out.size
    have O2 : Hid (w3.ownsRow w.heap.size 53 65 vd (wcD n D ++ [((z : Int), X)]).length (dv (wcD n D ++ [((z : Int), X)]))) := owns_rebase h2 L2.out.size
    clear hl3 h1 h2 r0 r1 f0 f1 d0 d1
    obtain ⟨a3, c3, rfl⟩ := (Rw.of_owns O1.out).shape
    generalize hm6 : (wcD n D ++ [((z : Int), X)]).length = m6 at *
    have HM6 := hide hm6
    clear hm6
    obtain ⟨a6, c6, rfl⟩ := (Rw.of_owns O2.out).shape
    have HE := hide (med_ret (by omega) BR3.out L3.out O1.out O2.out)
    have r0 := BR3.out.cell 0
    have r1 := BR3.out.cell 1
    have f0 := BR3.out.frozen 0
    have f1 := BR3.out.frozen 1
    clear O1 O2 L3
    go_wp2
    have HEE := med_of_owns (F := (wcF n F D)) (D := wcD n D ++ [((z : Int), X)]) HOk.out HE.out.2.2.1 (by rw [HM6.out]; exact HE.out.2.2.2)
    exact bodyPost_ret (results_cell_tmp rfl _ _ _ (w.heap.size + 1 + 1) 0 rfl (.agg #[.slice a3 n c3, .slice a6 m6 c6]) (.int .i64 0) (run_loadVar_mid _ _ _ _ [.slice a3 n c3, .slice a6 m6 c6] _ HE.out.1.range Try.underlying25 rfl (by kernel_rfl)) rfl) rfl ⟨.agg #[.slice a3 n c3, .slice a6 m6 c6], by rw [hE.out], HE.out.2.1, by rw [hN.out, hF.out, hD.out]; exact HEE⟩
end Go.Proofs.Ytphgjofiploahaa
