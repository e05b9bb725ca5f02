import Derived.Test.YtphgjofiploahaaR3g
namespace Go.Proofs.Ytphgjofiploahaa
open Go.ChangeShapes Go.WideShapes Go.ChangeAt Go.RowKit
set_option linter.unusedVariables false
set_option linter.unusedSimpArgs false

def pickM : List Drt → Nat → List Drt
  | [], _ => []
  | d :: D, m => if m % 2 = 1 then d :: pickM D (m / 2) else pickM D (m / 2)
theorem pickM_snoc : ∀ (D : List Drt) (m : Nat) (d : Drt), pickM (D ++ [d]) m = pickM D m ++ (if m / 2 ^ D.length % 2 = 1 then [d] else [])
  | [], m, d => by simp [pickM]
  | x :: D, m, d => by
    have := pickM_snoc D (m / 2) d
    simp only [List.cons_append, pickM, this, List.length_cons, Nat.pow_succ, Nat.mul_comm (2 ^ D.length) 2, ← Nat.div_div_eq_div_mul]
    split <;> simp
theorem pickM_mem {d : Drt} : ∀ {D : List Drt} {m : Nat}, d ∈ pickM D m → d ∈ D
  | [], _, h => by simp [pickM] at h
  | x :: D, m, h => by
    unfold pickM at h
    split at h
    · rcases List.mem_cons.1 h with rfl | h
      · simp
      · exact List.mem_cons_of_mem _ (pickM_mem h)
    · exact List.mem_cons_of_mem _ (pickM_mem h)

def loseE (n : Nat) (D : List Drt) : Int := if rightB n D then 0 else 1
def loseF (n : Nat) (F : List UInt8) (D : List Drt) (mask : Nat) : List UInt8 := if rightB n D then app F (pickM D mask) else []
def loseN (n : Nat) (D : List Drt) : Nat := if rightB n D then n else 0

set_option maxRecDepth 20000 in
set_option maxHeartbeats 1000000 in
theorem rlose_c {v : Value} {n : Nat} {F : List UInt8} {D : List Drt} (mask : Nat) (w : World) (h : Med w v n F D) (hmk : mask ≤ 18446744073709551615) :
    Calls Try.prog 24 #[v, .int .u64 mask] w fun e w' => ∃ v', e = .returned (.tuple #[v', .int .i64 (loseE n D)]) ∧ Later w w' ∧ Med w' v' (loseN n D) (loseF n F D mask) [] := by
  have HM := hide h
  obtain ⟨vb, vd, rfl, hb, hd, hok⟩ := h
  obtain ⟨ab, cb, rfl⟩ := hb.shape
  obtain ⟨k, hk⟩ : ∃ k, k = D.length := ⟨_, rfl⟩
  rw [← hk] at hd
  obtain ⟨aD, cD, rfl⟩ := hd.shape
  have hnm := hb.2.1
  have hkm := hd.2.1
  unfold maxLen at hnm hkm
  have HB := hide hb
  have HD := hide hd
  have HO := hide hok
  have HK := hide hk
  clear hb hd hk hok
  go_enter Try.func24, Try.ntmps24
  go_wp2_with fail
  refine (rright_c _ (HM.out.later (((Later.refl w).alloc _).alloc _))).mono ?_
  rintro e w2 ⟨rfl, hl2⟩
  have L2 : Hid (Later w w2) := Later.trans (((Later.refl w).alloc _).alloc _) hl2
  have BX : Hid (Box w2 w.heap.size 25 [.slice ab n cb, .slice aD k cD]) := Box.later ((Box.new w 25 #[.slice ab n cb, .slice aD k cD]).alloc _) hl2
  have BR : Hid (Box w2 (w.heap.size + 1) 25 [.slice none 0 0, .slice none 0 0]) := Box.later (Box.new' _ _ _ _ rfl _ (by simp)) hl2
  clear hl2
  have d0 := BX.out.cell 0
  have d1 := BX.out.cell 1
  have r0 := BR.out.cell 0
  have r1 := BR.out.cell 1
  have f0 := BR.out.frozen 0
  have f1 := BR.out.frozen 1
  by_cases hR : rightB n D = true
  case neg =>
    have hR' : rightB n D = false := by simpa using hR
    have BZ : Hid (Box ((w2.setCell ⟨w.heap.size + 1, 0, none⟩ (.slice none 0 0)).setCell ⟨w.heap.size + 1, 1, none⟩ (.slice none 0 0)) (w.heap.size + 1) 25 [.slice none 0 0, .slice none 0 0]) := (BR.out.set 0 _).set 1 _
    have LZ : Hid (Later w ((w2.setCell ⟨w.heap.size + 1, 0, none⟩ (.slice none 0 0)).setCell ⟨w.heap.size + 1, 1, none⟩ (.slice none 0 0))) := (L2.out.setCell (by simp) _).setCell (by simp) _
    rw [hR']
    go_wp2
    refine bodyPost_ret (results_cell_tmp rfl _ _ _ (w.heap.size + 1) 0 rfl (.agg #[.slice none 0 0, .slice none 0 0]) (.int .i64 1) (run_loadVar_mid _ _ _ _ [.slice none 0 0, .slice none 0 0] _ BZ.out.range Try.underlying25 rfl (by kernel_rfl)) rfl) rfl ⟨.agg #[.slice none 0 0, .slice none 0 0], ?_, LZ.out, ?_⟩
    · simp [loseE, hR']
    · simpa [loseN, loseF, hR'] using Med.nil _
  rw [hR]
  have hn64 : n ≤ 64 := by simp only [rightB, decide_eq_true_eq] at hR; exact hR.1
  have HFit := hide (fit_of_right hR HO.out)
  have HR := hide hR
  clear hR
  go_wp2_with fail
  refine (rcopy_c _ _ (Nat.le_refl _) (HB.out.later L2.out) (by omega)).mono ?_
  rintro e w3 ⟨v3, rfl, hl3, ho3⟩
  have L3 := hide (L2.out.trans hl3)
  have BX3 := hide (Box.later BX.out hl3)
  have BR3 := hide (Box.later BR.out hl3)
  have O3 : Hid (w3.ownsRow w.heap.size 27 64 v3 n (bv F)) := ho3.mono L2.out.size
  clear hl3 ho3 d0 d1 r0 r1 f0 f1 BX BR L2
  obtain ⟨a3, c3, rfl⟩ := (Rw.of_owns O3.out).shape
  go_wp2_with fail
  have BX1 := hide (BX3.out.alloc (.cells #[.slice a3 n c3, .slice none 0 0] 25))
  have BR1 := hide (BR3.out.alloc (.cells #[.slice a3 n c3, .slice none 0 0] 25))
  have BO1 := hide (Box.new w3 25 #[.slice a3 n c3, .slice none 0 0])
  have O1 := hide (O3.out.alloc (.cells #[.slice a3 n c3, .slice none 0 0] 25))
  have L1 := hide (L3.out.alloc (.cells #[.slice a3 n c3, .slice none 0 0] 25))
  have hG2 : w.heap.size + 1 < w3.heap.size := BR3.out.lt
  clear BX3 BR3 O3 L3
  generalize (w3.alloc (.cells #[.slice a3 n c3, .slice none 0 0] 25)) = w4 at *
  generalize w3.heap.size = G2 at *
  go_loopw [1, 7] (fun mv i wr => ∃ (q mq : Nat), q ≤ k ∧ i = .int .i64 q ∧ mv = .int .u64 mq ∧ mq ≤ 18446744073709551615 ∧ Hid (mq = mask / 2 ^ q) ∧ Hid (Later w wr) ∧ Hid (Box wr w.heap.size 25 [.slice ab n cb, .slice aD k cD]) ∧ Hid (Box wr (w.heap.size + 1) 25 [.slice none 0 0, .slice none 0 0]) ∧ Hid (Box wr G2 25 [.slice a3 n c3, .slice none 0 0]) ∧
      Hid (wr.ownsRow w.heap.size 27 64 (.slice a3 n c3) n (bv (app F (pickM (D.take q) mask))))) (fun _ i _ => k - (intOf i).toNat)
  case atStart => exact ⟨0, mask, Nat.zero_le _, rfl, rfl, hmk, by simp [Hid], L1, BX1, BR1, BO1, by simpa [app, pickM] using O1⟩
  case round =>
    clear BX1 BR1 BO1 O1 L1
    obtain ⟨q, mq, hq, rfl, rfl, hmq, hmqe, hl, hbx, hbr, hbo, hob⟩ := hrel
    have d0 := hbx.out.cell 0
    have d1 := hbx.out.cell 1
    have o0 := hbo.out.cell 0
    by_cases hlt : q < k
    · have hqD : q < D.length := by have := HK.out; omega
      have hdq := HFit.out D[q] (List.getElem_mem hqD)
      obtain ⟨z, hz⟩ := Int.eq_ofNat_of_zero_le hdq.2.1
      have hzn : z < n := by have := hdq.2.2; omega
      obtain ⟨bD, oD, e, hr⟩ := (HD.out.later hl.out).lies? (by omega)
      subst e
      have hra := range_part hr (q * 65) 65
      rw [dv_part D q hqD HO.out] at hra
      have hat := hr _ _ (dv_at D q hqD HO.out)
      rw [hz] at hat
      have hrd := hide (range_tail hra)
      have hdl := hide hdq.1
      have hstep : Hid (pickM (D.take (q + 1)) mask = pickM (D.take q) mask ++ (if mq % 2 = 1 then [((z : Int), D[q].2)] else [])) := by
        unfold Hid
        rw [List.take_succ_eq_append_getElem hqD, pickM_snoc, List.length_take, Nat.min_eq_left (by omega), ← hmqe.out, ← hz]
      have hhalf : Hid (mq / 2 = mask / 2 ^ (q + 1)) := by unfold Hid; rw [hmqe.out, Nat.pow_succ, Nat.div_div_eq_div_mul]
      have hrem : ((mq : Int).tmod 2) = ((mq % 2 : Nat) : Int) := rfl
      have hquo : ((mq : Int).tdiv 2) = ((mq / 2 : Nat) : Int) := rfl
      generalize D[q].2 = X at *
      clear hra hr hdq hz
      by_cases hodd : mq % 2 = 1
      · have hb1 : (((mq % 2 : Nat) : Int) == 1) = true := by rw [hodd]; rfl
        obtain ⟨g, capg, e, hg⟩ := owns_head hob.out (by omega)
        simp only [Value.slice.injEq, true_and] at e
        obtain ⟨rfl, rfl⟩ := e
        have g0 := fun r => (Box.later hbo.out ((Later.refl wr).drew.trans (later_rg wr.drew r))).cell 0
        have g1 := fun r => (Box.later hbx.out ((Later.refl wr).drew.trans (later_rg wr.drew r))).cell 1
        have g2 := fun r => ((Later.refl wr).drew.trans (later_rg wr.drew r)).cellOf hat
        go_wp2_with fail
        refine wp_region_tree [0, 1, 2, 3, 4, 5, 6, 7, 8, 9, 10, 11, 12, 13, 14] [] [15] (by kernel_rfl) (by kernel_rfl) (by kernel_rfl) (by kernel_rfl) ?_
        iterate 13 (refine wpT_mild rfl (fun K hK => ?_); go_simp; refine hK _ ?_; clear hK K)
        refine wpT_loadG rfl (by kernel_rfl) 27 (.tmp 38) rfl bD (oD + q * 65 + 1) rfl (bv X) _ ((World.rangeAt_drew _ _ _ _).2 hrd.out) Try.underlying27 rfl (by rw [Try.info_block, bv_length, hdl.out]) ?_
        iterate 1 (refine wpT_mild rfl (fun K hK => ?_); go_simp; refine hK _ ?_; clear hK K)
        refine wpT_done (fun wx hwx => ?_)
        have hlx : Later wr wx := (Later.refl wr).drew.trans hwx
        have ox := owns_later hob.out hlx
        have ht : wx.there g (z * 64) (bv X).length := by
          rw [bv_length, hdl.out]
          exact owns_there ox (z * 64) 64 (by omega)
        have hnew := (owns_setCells ox (bv X) (z * 64) (by rw [bv_length, hdl.out]; omega)).1
        rw [← bv_over] at hnew
        have ho1 : ∀ b t xs, t ≠ 27 → Box wx b t xs → Box (wx.setCells g (z * 64) (bv X)) b t xs := fun b t xs hne hB => by
          unfold Box
          rw [heap_setCells_other wx g b (box_ne_own hB ox hne g rfl)]
          exact hB
        have N1 : Hid ((wx.setCells g (z * 64) (bv X)).ownsRow w.heap.size 27 64 (.slice (some ⟨g, 0, none⟩) n c3) n (bv (app F (pickM (D.take (q + 1)) mask)))) := by
          unfold Hid
          rw [hstep.out, if_pos hodd, app_snoc]
          exact hnew
        have N3 := hide (ho1 _ _ _ (by decide) (Box.later hbx.out hlx))
        have N4 := hide (ho1 _ _ _ (by decide) (Box.later hbr.out hlx))
        have N5 := hide (ho1 _ _ _ (by decide) (Box.later hbo.out hlx))
        have N6 : Hid (Later w (wx.setCells g (z * 64) (bv X))) := (hl.out.trans hlx).setCells hg (bv X) (z * 64)
        refine wpL_store rfl (by kernel_rfl) 27 (.tmp 40) (.tmp 39) rfl g (z * 64) (bv X) rfl rfl ht (by rw [Try.info_block, bv_length, hdl.out]) (bv_one X) (wpL_nil ?_)
        clear ho1 hnew ht ox hlx hwx g0 g1 g2 hat hrd hdl hstep d0 d1 o0 hl hbx hbr hbo hob hmqe
        generalize wx.setCells g (z * 64) (bv X) = wz at *
        go_wp2
        go_roundw
        case rel => exact ⟨q + 1, mq / 2, by omega, by go_num, by first | rfl | simp, by omega, hhalf, N6, N3, N4, N5, N1⟩
        case measure => simp [intOf]; omega
      · have hb1 : (((mq % 2 : Nat) : Int) == 1) = false := by rw [beq_eq_false_iff_ne]; omega
        have N1 : Hid (wr.ownsRow w.heap.size 27 64 (.slice a3 n c3) n (bv (app F (pickM (D.take (q + 1)) mask)))) := by
          unfold Hid
          rw [hstep.out, if_neg hodd, List.append_nil]
          exact hob.out
        clear hat hrd hdl hstep hmqe hob
        go_wp2
        go_roundw
        case rel => exact ⟨q + 1, mq / 2, by omega, by go_num, by first | rfl | simp, by omega, hhalf, hl, hbx, hbr, hbo, N1⟩
        case measure => simp [intOf]; omega
    · have hkq : q = k := by omega
      have B1 : Hid (wr.ownsRow w.heap.size 27 64 (.slice a3 n c3) n (bv (app F (pickM D mask)))) := by have := hob.out; rw [hkq, HK.out, List.take_length] at this; exact this
      have o1 := hbo.out.cell 1
      have r0 := hbr.out.cell 0
      have r1 := hbr.out.cell 1
      have f0 := hbr.out.frozen 0
      have f1 := hbr.out.frozen 1
      have hw1 : Hid (Box ((wr.setCell ⟨w.heap.size + 1, 0, none⟩ (.slice a3 n c3)).setCell ⟨w.heap.size + 1, 1, none⟩ (.slice none 0 0)) (w.heap.size + 1) 25 [.slice a3 n c3, .slice none 0 0]) := (hbr.out.set 0 _).set 1 _
      have hne : ∀ g, g ≠ w.heap.size + 1 → ((wr.setCell ⟨w.heap.size + 1, 0, none⟩ (.slice a3 n c3)).setCell ⟨w.heap.size + 1, 1, none⟩ (.slice none 0 0)).heap[g]? = wr.heap[g]? := fun g hg => by
        rw [heap_setCell_other _ _ _ _ (by simpa using hg), heap_setCell_other _ _ _ _ (by simpa using hg)]
      have N1 := hide (owns_kept B1.out fun g hg => hne g (fun e => box_ne_own hbr.out B1.out (by decide) g hg e.symm))
      have N6 : Hid (Later w ((wr.setCell ⟨w.heap.size + 1, 0, none⟩ (.slice a3 n c3)).setCell ⟨w.heap.size + 1, 1, none⟩ (.slice none 0 0))) := (hl.out.setCell (by simp) _).setCell (by simp) _
      clear hne hob hbx hbr hl B1
      go_wp2
      refine bodyPost_ret (results_cell_tmp rfl _ _ _ (w.heap.size + 1) 0 rfl (.agg #[.slice a3 n c3, .slice none 0 0]) (.int .i64 0) (run_loadVar_mid _ _ _ _ [.slice a3 n c3, .slice none 0 0] _ hw1.out.range Try.underlying25 rfl (by kernel_rfl)) rfl) rfl ⟨.agg #[.slice a3 n c3, .slice none 0 0], by simp [loseE, HR.out], N6.out, _, _, rfl, ?_, Rw.nil 65 _, fun d hd => by cases hd⟩
      simp only [loseN, loseF, HR.out, if_true]
      exact Rw.of_owns N1.out
end Go.Proofs.Ytphgjofiploahaa
