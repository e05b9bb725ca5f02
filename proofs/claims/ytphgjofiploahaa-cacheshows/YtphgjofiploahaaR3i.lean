import Derived.Test.YtphgjofiploahaaR3h
namespace Go.Proofs.Ytphgjofiploahaa
open Go.ChangeShapes Go.WideShapes Go.ChangeAt Go.RowKit
set_option linter.unusedVariables false
set_option linter.unusedSimpArgs false

def wrE (n : Nat) (D : List Drt) (at_ : Int) : Int := if rightB n D then (if 0 ≤ at_ ∧ at_ < n then 0 else 5) else 1
def wrF (n : Nat) (F : List UInt8) (D : List Drt) (at_ : Int) (X : List UInt8) (th : Bool) : List UInt8 :=
  if wrE n D at_ = 0 then (if th then over (app F (D.filter (inR at_ (at_ + 1)))) (at_.toNat * 64) X else if D.length = 64 then app F (D.filter (inR 0 n)) else F) else []
def wrD (n : Nat) (D : List Drt) (at_ : Int) (X : List UInt8) (th : Bool) : List Drt :=
  if wrE n D at_ = 0 then (if th then D.filter (fun d => !inR at_ (at_ + 1) d) else (if D.length = 64 then D.filter (fun d => !inR 0 n d) else D) ++ [(at_, X)]) else []
def wrN (n : Nat) (D : List Drt) (at_ : Int) : Nat := if wrE n D at_ = 0 then n else 0

set_option maxRecDepth 20000 in
set_option maxHeartbeats 1000000 in
theorem rwrite3_t {v : Value} {n : Nat} {F : List UInt8} {D : List Drt} (at_ : Int) (X : List UInt8) (w : World) (h : Med w v n F D) (hX : X.length = 64) (ha : -9223372036854775808 ≤ at_) (ha' : at_ ≤ 9223372036854775807) :
    Calls Try.prog 12 #[v, .int .i64 at_, .agg (bv X).toArray, .bool true] w fun e w' => ∃ v', e = .returned (.tuple #[v', .int .i64 (wrE n D at_)]) ∧ Later w w' ∧ Med w' v' (wrN n D at_) (wrF n F D at_ X true) (wrD n D at_ X true) := by
  have HM := hide h
  obtain ⟨vb, vd, rfl, hb, hd, hok⟩ := h
  obtain ⟨ab, cb, rfl⟩ := hb.shape
  obtain ⟨k, hk⟩ : ∃ k, k = D.length := ⟨_, rfl⟩
  rw [← hk] at hd
  obtain ⟨aD, cD, rfl⟩ := hd.shape
  have hnm := hb.2.1
  have hkm := hd.2.1
  unfold maxLen at hnm hkm
  have HB := hide hb
  have HD := hide hd
  have HO := hide hok
  have HK := hide hk
  have HX := hide hX
  clear hb hd hk hok hX
  go_enter Try.func12, Try.ntmps12
  go_wp2_with fail
  refine (rright_c _ (HM.out.later ((((Later.refl w).alloc _).alloc _).alloc _))).mono ?_
  rintro e w2 ⟨rfl, hl2⟩
  have L2 : Hid (Later w w2) := Later.trans ((((Later.refl w).alloc _).alloc _).alloc _) hl2
  have BX : Hid (Box w2 w.heap.size 25 [.slice ab n cb, .slice aD k cD]) := Box.later ((Box.new w 25 #[.slice ab n cb, .slice aD k cD]).alloc _ |>.alloc _) hl2
  have BR : Hid (Box w2 (w.heap.size + 1 + 1) 25 [.slice none 0 0, .slice none 0 0]) := Box.later (Box.new' _ _ _ _ rfl _ (by simp)) hl2
  have BD : Hid (Box w2 (w.heap.size + 1) 27 (bv X)) := Box.later ((Box.new' _ _ _ _ (by simp) _ (by simp)).alloc _) hl2
  clear hl2
  have d0 := BX.out.cell 0
  have d1 := BX.out.cell 1
  have r0 := BR.out.cell 0
  have r1 := BR.out.cell 1
  have f0 := BR.out.frozen 0
  have f1 := BR.out.frozen 1
  have BZ : Hid (Box ((w2.setCell ⟨w.heap.size + 1 + 1, 0, none⟩ (.slice none 0 0)).setCell ⟨w.heap.size + 1 + 1, 1, none⟩ (.slice none 0 0)) (w.heap.size + 1 + 1) 25 [.slice none 0 0, .slice none 0 0]) := (BR.out.set 0 _).set 1 _
  have LZ : Hid (Later w ((w2.setCell ⟨w.heap.size + 1 + 1, 0, none⟩ (.slice none 0 0)).setCell ⟨w.heap.size + 1 + 1, 1, none⟩ (.slice none 0 0))) := (L2.out.setCell (by simp; omega) _).setCell (by simp; omega) _
  by_cases hR : rightB n D = true
  case neg =>
    have hR' : rightB n D = false := by simpa using hR
    rw [hR']
    go_wp2
    refine bodyPost_ret (results_cell_tmp rfl _ _ _ (w.heap.size + 1 + 1) 0 rfl (.agg #[.slice none 0 0, .slice none 0 0]) (.int .i64 1) (run_loadVar_mid _ _ _ _ [.slice none 0 0, .slice none 0 0] _ BZ.out.range Try.underlying25 rfl (by kernel_rfl)) rfl) rfl ⟨.agg #[.slice none 0 0, .slice none 0 0], ?_, LZ.out, ?_⟩
    · simp [wrE, hR']
    · simpa [wrE, wrN, wrF, wrD, hR'] using Med.nil _
  rw [hR]
  by_cases hin : 0 ≤ at_ ∧ at_ < n
  case neg =>
    have hE : Hid (wrE n D at_ = 5) := by simp only [Hid, wrE, hR, if_true, if_neg hin]
    by_cases c1 : at_ < 0
    · go_wp2
      refine bodyPost_ret (results_cell_tmp rfl _ _ _ (w.heap.size + 1 + 1) 0 rfl (.agg #[.slice none 0 0, .slice none 0 0]) (.int .i64 5) (run_loadVar_mid _ _ _ _ [.slice none 0 0, .slice none 0 0] _ BZ.out.range Try.underlying25 rfl (by kernel_rfl)) rfl) rfl ⟨.agg #[.slice none 0 0, .slice none 0 0], by rw [hE.out], LZ.out, ?_⟩
      simpa [wrN, wrF, wrD, hE.out] using Med.nil _
    · have c3 : (n : Int) ≤ at_ := by omega
      go_wp2
      refine bodyPost_ret (results_cell_tmp rfl _ _ _ (w.heap.size + 1 + 1) 0 rfl (.agg #[.slice none 0 0, .slice none 0 0]) (.int .i64 5) (run_loadVar_mid _ _ _ _ [.slice none 0 0, .slice none 0 0] _ BZ.out.range Try.underlying25 rfl (by kernel_rfl)) rfl) rfl ⟨.agg #[.slice none 0 0, .slice none 0 0], by rw [hE.out], LZ.out, ?_⟩
      simpa [wrN, wrF, wrD, hE.out] using Med.nil _
  have hE : Hid (wrE n D at_ = 0) := by simp only [Hid, wrE, hR, if_true, if_pos hin]
  have hR2 := hR
  simp only [rightB, decide_eq_true_eq] at hR2
  have hn64 := hR2.1
  have hk64 : k ≤ 64 := by have := hR2.2.1; have := HK.out; omega
  have HFit := hide (fit_of_right hR HO.out)
  obtain ⟨z, rfl⟩ := Int.eq_ofNat_of_zero_le hin.1
  have hzn : z < n := by omega
  have c1 : ¬ (z : Int) < 0 := by omega
  have c3 : ¬ (n : Int) ≤ (z : Int) := by omega
  clear hin hR2 hR BZ LZ
  · skip
    go_wp2_with fail
    refine (rflushed_c (z : Int) ((z : Int) + 1) w2 (HM.out.later L2.out) hn64 (by have := HK.out; omega) HFit.out).mono ?_
    rintro e w3 ⟨vb, vd, rfl, hl3, h1, h2⟩
    have L3 := hide (L2.out.trans hl3)
    have BR3 := hide (Box.later BR.out hl3)
    have BD3 := hide (Box.later BD.out hl3)
    have hs2 : w.heap.size + 1 + 1 < w2.heap.size := BR.out.lt
    obtain ⟨g, c3, e, hg⟩ := owns_head h1 (by omega)
    subst e
    obtain ⟨m6, hm6⟩ : ∃ m6, m6 = (D.filter fun d => !inR (z : Int) ((z : Int) + 1) d).length := ⟨_, rfl⟩
    rw [← hm6] at h2
    have HM6 := hide hm6
    clear hm6
    obtain ⟨a6, c6, rfl⟩ := (Rw.of_owns h2).shape
    have B3 := hide h1
    have D3 := hide h2
    clear h1 h2 hl3 d0 d1 r0 r1 f0 f1 BX BR BD L2
    have hXl := HX.out
    have lA : (w3.alloc (.cells #[.slice (some ⟨g, 0, none⟩) n c3, .slice a6 m6 c6] 25)) = (w3.alloc (.cells #[.slice (some ⟨g, 0, none⟩) n c3, .slice a6 m6 c6] 25)) := rfl
    have L4 := hide (L3.out.alloc (.cells #[.slice (some ⟨g, 0, none⟩) n c3, .slice a6 m6 c6] 25))
    have BR4 := hide (BR3.out.alloc (.cells #[.slice (some ⟨g, 0, none⟩) n c3, .slice a6 m6 c6] 25))
    have BD4 := hide (BD3.out.alloc (.cells #[.slice (some ⟨g, 0, none⟩) n c3, .slice a6 m6 c6] 25))
    have BO4 := hide (Box.new w3 25 #[.slice (some ⟨g, 0, none⟩) n c3, .slice a6 m6 c6])
    have B4 := hide (B3.out.alloc (.cells #[.slice (some ⟨g, 0, none⟩) n c3, .slice a6 m6 c6] 25))
    have D4 := hide (D3.out.alloc (.cells #[.slice (some ⟨g, 0, none⟩) n c3, .slice a6 m6 c6] 25))
    have hG : w2.heap.size ≤ w3.heap.size := by have := (B3.out.lt g rfl); omega
    clear L3 BR3 BD3 B3 D3 lA
    obtain ⟨w4, hw4⟩ : ∃ w4, w4 = (w3.alloc (.cells #[.slice (some ⟨g, 0, none⟩) n c3, .slice a6 m6 c6] 25)) := ⟨_, rfl⟩
    rw [← hw4] at L4 BR4 BD4 BO4 B4 D4
    have o0 := BO4.out.cell 0
    have o1 := BO4.out.cell 1
    have hth : Hid (w4.there g (z * 64) (bv X).toArray.size) := by
      have := owns_there B4.out (z * 64) 64 (by omega)
      unfold Hid
      simpa [bv_length, hXl] using this
    have hnew := (owns_setCells B4.out (bv X) (z * 64) (by rw [bv_length, hXl]; omega)).1
    rw [← bv_over] at hnew
    have ho1 : ∀ b xs, Box w4 b 25 xs → Box (w4.setCells g (z * 64) (bv X)) b 25 xs := fun b xs hB => by
      unfold Box
      rw [heap_setCells_other w4 g b (box_ne_own hB B4.out (by decide) g rfl)]
      exact hB
    have N1 := hide hnew
    have N2 := hide (owns_kept (w' := w4.setCells g (z * 64) (bv X)) D4.out fun j hj => heap_setCells_other w4 g j (fun e => own_ne_own B4.out D4.out (by decide) g rfl (by rw [← e]; exact hj)) _ _)
    have N4 := hide (ho1 _ _ BR4.out)
    have N5 := hide (ho1 _ _ BO4.out)
    have N6 : Hid (Later w (w4.setCells g (z * 64) (bv X))) := L4.out.setCells (by have := hg; omega) (bv X) (z * 64)
    have p0 := N5.out.cell 0
    have p1 := N5.out.cell 1
    have r0 := N4.out.cell 0
    have r1 := N4.out.cell 1
    have f0 := N4.out.frozen 0
    have f1 := N4.out.frozen 1
    have HE : Hid (Box (((w4.setCells g (z * 64) (bv X)).setCell ⟨w.heap.size + 1 + 1, 0, none⟩ (.slice (some ⟨g, 0, none⟩) n c3)).setCell ⟨w.heap.size + 1 + 1, 1, none⟩ (.slice a6 m6 c6)) (w.heap.size + 1 + 1) 25 [.slice (some ⟨g, 0, none⟩) n c3, .slice a6 m6 c6] ∧
        Later w (((w4.setCells g (z * 64) (bv X)).setCell ⟨w.heap.size + 1 + 1, 0, none⟩ (.slice (some ⟨g, 0, none⟩) n c3)).setCell ⟨w.heap.size + 1 + 1, 1, none⟩ (.slice a6 m6 c6)) ∧
        Med (((w4.setCells g (z * 64) (bv X)).setCell ⟨w.heap.size + 1 + 1, 0, none⟩ (.slice (some ⟨g, 0, none⟩) n c3)).setCell ⟨w.heap.size + 1 + 1, 1, none⟩ (.slice a6 m6 c6)) (.agg #[.slice (some ⟨g, 0, none⟩) n c3, .slice a6 m6 c6]) (wrN n D z) (wrF n F D z X true) (wrD n D z X true)) := by
      have hne : ∀ j, j ≠ w.heap.size + 1 + 1 → (((w4.setCells g (z * 64) (bv X)).setCell ⟨w.heap.size + 1 + 1, 0, none⟩ (.slice (some ⟨g, 0, none⟩) n c3)).setCell ⟨w.heap.size + 1 + 1, 1, none⟩ (.slice a6 m6 c6)).heap[j]? = (w4.setCells g (z * 64) (bv X)).heap[j]? := fun j hj => by
        rw [heap_setCell_other _ _ _ _ (by simpa using hj), heap_setCell_other _ _ _ _ (by simpa using hj)]
      have e1 := owns_kept N1.out fun j hj => hne j (fun e => box_ne_own N4.out N1.out (by decide) j hj e.symm)
      have e2 := owns_kept N2.out fun j hj => hne j (fun e => box_ne_own N4.out N2.out (by decide) j hj e.symm)
      refine ⟨(N4.out.set 0 _).set 1 _, (N6.out.setCell (by simp; omega) _).setCell (by simp; omega) _, _, _, rfl, ?_, ?_, ?_⟩
      · rw [show wrN n D z = n from by simp [wrN, hE.out], show wrF n F D z X true = over (app F (D.filter (inR (z : Int) ((z : Int) + 1)))) (z * 64) X from by simp [wrF, hE.out]]
        exact Rw.of_owns e1
      · rw [show wrD n D z X true = D.filter (fun d => !inR (z : Int) ((z : Int) + 1) d) from by simp [wrD, hE.out], ← HM6.out]
        exact Rw.of_owns e2
      · rw [show wrD n D z X true = D.filter (fun d => !inR (z : Int) ((z : Int) + 1) d) from by simp [wrD, hE.out]]
        exact HO.out.filter _
    clear N1 N2 N4 N5 N6 hnew ho1 B4 D4 BR4 BO4 L4 hXl
    subst hw4
    go_wp2_with (first
      | refine wpList_load_mid rfl 27 (.tmp 6) rfl (w.heap.size + 1) 0 rfl (bv X) _ BD4.out.range Try.underlying27 rfl (by rw [Try.info_block, bv_length, HX.out]) ?_
      | refine wpList_store_mid rfl 27 (.tmp 35) (.tmp 34) rfl g (z * 64) (bv X).toArray rfl rfl hth.out (by rw [Try.info_block]; simp [bv_length, HX.out]) (all_oneCell_toArray (bv_one _)) ?_)
    exact bodyPost_ret (results_cell_tmp rfl _ _ _ (w.heap.size + 1 + 1) 0 rfl (.agg #[.slice (some ⟨g, 0, none⟩) n c3, .slice a6 m6 c6]) (.int .i64 0) (run_loadVar_mid _ _ _ _ [.slice (some ⟨g, 0, none⟩) n c3, .slice a6 m6 c6] _ HE.out.1.range Try.underlying25 rfl (by kernel_rfl)) rfl) rfl ⟨.agg #[.slice (some ⟨g, 0, none⟩) n c3, .slice a6 m6 c6], by rw [hE.out], HE.out.2.1, HE.out.2.2⟩
end Go.Proofs.Ytphgjofiploahaa
