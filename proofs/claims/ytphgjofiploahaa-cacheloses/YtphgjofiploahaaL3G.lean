import Derived.Test.YtphgjofiploahaaL3F
namespace Go.Proofs.Ytphgjofiploahaa
open Go.ChangeShapes Go.WideShapes Go.ChangeAt Go.RowKit
set_option linter.unusedVariables false
set_option linter.unusedSimpArgs false

def isB (H A : List UInt8) (W : List Drt) (b q : Nat) : Bool := (blk H b == blk A b) || (W.take q).any fun d => d.1 == (b : Int) && blk H b == d.2
theorem isB_zero (H A : List UInt8) (W : List Drt) (b : Nat) : isB H A W b 0 = (blk H b == blk A b) := by simp [isB]
theorem isB_succ (H A : List UInt8) (W : List Drt) (b q : Nat) (hq : q < W.length) : isB H A W b (q + 1) = (isB H A W b q || (W[q].1 == (b : Int) && blk H b == W[q].2)) := by
  unfold isB
  rw [List.take_succ_eq_append_getElem hq, List.any_append]
  simp [Bool.or_assoc]
theorem isB_all {n : Nat} {H A : List UInt8} {W : List Drt} (h : May n H A W) (b : Nat) (hb : b < n) : isB H A W b W.length = true := by
  unfold isB
  rw [List.take_length]
  rcases h b hb with h | ⟨d, hd, h1, h2⟩
  · simp [h]
  · have : (W.any fun d => d.1 == (b : Int) && blk H b == d.2) = true := List.any_eq_true.2 ⟨d, hd, by simp [h1, h2]⟩
    simp [this]

set_option maxRecDepth 20000 in
set_option maxHeartbeats 4000000 in
theorem cacheLoses_walk (hal : Alive3) (iW : IWriteX) (iF : IFlush) (iL : ILose) (iA : IAll) (v0 v1 v2 : Value) (w : World) (h0 : RMed w v0) (h1 : RInt .u64 v1) (h2 : RActs w v2) :
    Calls Try.prog 6 #[v0, v1, v2] w fun e w' => e = .returned (.bool true) ∧ Below w.heap.size w w' := by
  obtain ⟨n, F, D, hm⟩ := h0
  obtain ⟨mk, hmk, rfl⟩ : ∃ a : Nat, a ≤ 18446744073709551615 ∧ v1 = .int .u64 (a : Int) := by
    obtain ⟨x, rfl, wx⟩ := h1
    have hx := bounds_u64 wx
    obtain ⟨y, rfl⟩ := Int.eq_ofNat_of_zero_le hx.1
    exact ⟨y, by omega, rfl⟩
  obtain ⟨acts, hok, hacts⟩ := h2
  obtain ⟨ka, hka0⟩ : ∃ ka, ka = acts.length := ⟨_, rfl⟩
  rw [← hka0] at hacts
  obtain ⟨aL, cL, rfl⟩ := hacts.shape
  have hka : ka ≤ 9223372036854775807 := by have := hacts.2.1; unfold maxLen at this; omega
  have ACT := hide hacts
  have HKA := hide hka0
  have HOK := hide hok
  have M := hide hm
  have HF := hide hm.flat
  obtain ⟨ab, cb, aD, k, cD, rfl, HK, hn, hk⟩ := hm.shape
  clear hm h1 hacts hka0 hok
  have BM := hide (Box.new w 25 #[.slice ab n cb, .slice aD k cD])
  have L := hide ((Later.refl w).alloc (.cells #[.slice ab n cb, .slice aD k cD] 25))
  go_enter Try.func6, Try.ntmps6
  go_wp2_with fail
  refine (hal _).mono ?_
  rintro e w1 ⟨rfl, hl⟩
  replace BM := hide (BM.out.later hl)
  replace L := hide (L.out.later hl)
  clear hl
  have m0 := BM.out.cell 0
  have m1 := BM.out.cell 1
  go_wp2_with fail
  refine (rgreat_c _ (M.out.later L.out)).mono ?_
  clear m0 m1
  rintro e w2 ⟨rfl, hl⟩
  replace BM := hide (BM.out.later hl)
  replace L := hide (L.out.later hl)
  clear hl
  by_cases hg : greatB n D = true
  · rw [hg]
    go_wp2
    go_ret
    exact ⟨rfl, L.out⟩
  have hg' : greatB n D = false := by simpa using hg
  rw [hg']
  clear hg hg'
  by_cases h100 : 100 < ka
  · have h100' : (100 : Int) < (ka : Int) := by omega
    go_wp2
    go_ret
    exact ⟨rfl, L.out⟩
  have h100' : ¬ (100 : Int) < (ka : Int) := by omega
  have m0 := BM.out.cell 0
  have m1 := BM.out.cell 1
  go_wp2_with fail
  refine (rright_c _ (M.out.later L.out)).mono ?_
  clear m0 m1
  rintro e w3 ⟨rfl, hl⟩
  replace BM := hide (BM.out.later hl)
  replace L := hide (L.out.later hl)
  clear hl
  by_cases hR : rightB n D = true
  case neg =>
    have hR' : rightB n D = false := by simpa using hR
    rw [hR']
    go_wp2
    go_ret
    exact ⟨rfl, L.out⟩
  rw [hR]
  have HR := hide hR
  have F0 := hide (flush0 (F := F) hR HF.out.2)
  have LS0 := hide (loses_start hR HF.out.2 HF.out.1)
  have eN : allN n D = n := by simp [allN, hR]
  have eF : allF n F D = app F D := by simp [allF, hR]
  have hn64 : n ≤ 64 := ((right_iff n D).1 hR).1
  clear hR
  have m0 := BM.out.cell 0
  have m1 := BM.out.cell 1
  go_wp2_with fail
  refine (iA _ _ _ _ _ (M.out.later L.out)).mono ?_
  rintro e w4 ⟨va, rfl, hl, hA⟩
  replace BM := hide (BM.out.later hl)
  replace L := hide (L.out.later hl)
  rw [eN, eF] at hA
  have R := hide hA
  obtain ⟨a4, c4, rfl⟩ := hA.shape
  clear hA hl m0 m1 eN eF
  have m0 := BM.out.cell 0
  have m1 := BM.out.cell 1
  go_wp2_with fail
  have hcl := iF _ _ _ _ 0 0 _ (M.out.later L.out) (by decide) (by decide) (by decide) (by decide)
  rw [F0.out.1, F0.out.2.1, F0.out.2.2.1, F0.out.2.2.2] at hcl
  refine hcl.mono ?_
  clear hcl m0 m1
  rintro e w5 ⟨v5, rfl, hl, hA⟩
  replace BM := hide (BM.out.later hl)
  replace L := hide (L.out.later hl)
  replace R := hide (R.out.later hl)
  have Y := hide hA
  obtain ⟨p5, c5, q5, k5, d5, rfl, HK5, hn5, hk5⟩ := hA.shape
  clear hA hl
  go_wp2_with (refine wpList_newM rfl rfl rfl 8 rfl (by simp) (.tmp 40) (by simp) rfl p5 q5 _ c5 k5 d5 rfl ?_)
  intro g5 w6 hB hl hg
  replace BM := hide (BM.out.later hl)
  replace L := hide (L.out.later hl)
  replace R := hide (R.out.later hl)
  replace Y := hide (Y.out.later hl)
  have BY := hide hB
  clear hl hB hg
  have m0 := BY.out.cell 0
  have m1 := BY.out.cell 1
  go_wp2_with (refine wpList_storeM rfl (.tmp 3) (.tmp 44) rfl w.heap.size rfl p5 q5 n c5 k5 d5 rfl _ BM.out (slices2 _ _ _ _ _ _) rfl w L.out (Nat.le_refl _) ?_)
  intro w7 hB hl hK
  have Y7 := hide (hK.med Y.out)
  have R7 := hide (hK.blocks R.out)
  have L7 := hide hl
  have B7 := hide hB
  clear hB hl hK m0 m1 Y BY R L BM M HF F0
  go_wp2_with fail
  go_loopw [7, 10, 11] (fun all wr i W => ∃ (q : Nat) (G : List UInt8) (E : List Drt) (A : List UInt8) (Wt : List Drt) (aA : Option Addr) (cA : Nat) (p c : Option Addr × Nat) (kE : Nat), q ≤ ka ∧ i = .int .i64 q ∧ all = .slice aA n cA ∧ Wt.length ≤ q ∧ Hid (Rw 64 W (.slice aA n cA) n (bv A)) ∧ Hid (W.ownsRow w.heap.size 53 65 wr Wt.length (dv Wt) ∧ Ok Wt) ∧
      Hid (Box W w.heap.size 25 [.slice p.1 n p.2, .slice c.1 kE c.2]) ∧ Hid (Med W (.agg #[.slice p.1 n p.2, .slice c.1 kE c.2]) n G E) ∧ Hid (Loses n G E A Wt) ∧ Hid (Later w W) ∧ Hid (∀ g, wr.ownBlock = some g → OffS g (.slice aA n cA) ∧ OffM g (.agg #[.slice p.1 n p.2, .slice c.1 kE c.2]))) (fun _ _ i _ => ka - (intOf i).toNat)
  case atStart => exact ⟨0, app F D, [], app F D, [], a4, c4, (p5, c5), (q5, d5), k5, Nat.zero_le _, rfl, rfl, by simp, R7, ⟨World.ownsRow_nil _ _ _ _, fun d hd => by cases hd⟩, B7, Y7, LS0, L7, fun g hg => by simp [Value.ownBlock] at hg⟩
  case round =>
    clear R7 B7 Y7 LS0 L7
    obtain ⟨q, G, E, A, Wt, aA, cA, ⟨p1, p2⟩, ⟨s1, s2⟩, kE, hq, rfl, rfl, hwt, RA, OW, BM, MD, LS, L, OFF⟩ := hrel
    by_cases hlt : q < ka
    · obtain ⟨bL, oL, rfl, hrL⟩ := (ACT.out.later L.out).lies? (by omega)
      have hqa : q < acts.length := by have := HKA.out; omega
      have hz := HOK.out acts[q] (List.getElem_mem hqa)
      have hat := av_at acts q hqa
      have k0 := hrL _ _ hat.1
      have k1 := hrL _ _ hat.2.1
      have k2 := hrL _ _ hat.2.2.1
      have k3 := hrL _ _ hat.2.2.2
      rw [← Nat.add_assoc] at k1 k2 k3
      rcases hact : acts[q] with ⟨at_, fl, th, fsh⟩
      simp only [hact] at k0 k1 k2 k3 hz
      clear hat hact hrL
      cases fsh with
      | true =>
        have F0 := hide (flush0 (F := G) LS.out.1 LS.out.2.1)
        have m0 := BM.out.cell 0
        have m1 := BM.out.cell 1
        go_wp2_with fail
        have hcl := iF _ _ _ _ 0 0 _ MD.out (by decide) (by decide) (by decide) (by decide)
        rw [F0.out.1, F0.out.2.1, F0.out.2.2.1, F0.out.2.2.2] at hcl
        refine hcl.mono ?_
        clear hcl m0 m1 k0 k1 k2 k3
        rintro e u5 ⟨vy, rfl, hl, hA⟩
        replace BM := hide (BM.out.later hl)
        replace L := hide (L.out.later hl)
        replace MD := hide (MD.out.later hl)
        have Y := hide hA
        obtain ⟨py, cy, qy, ky, dy, rfl, HKy, hny, hky⟩ := hA.shape
        clear hA hl
        go_wp2_with (refine wpList_newM rfl rfl rfl 12 rfl (by simp) (.tmp 59) (by simp) rfl py qy _ cy ky dy rfl ?_)
        intro gy u6 hB hl hg
        replace BM := hide (BM.out.later hl)
        replace L := hide (L.out.later hl)
        replace MD := hide (MD.out.later hl)
        replace Y := hide (Y.out.later hl)
        have BY := hide hB
        clear hl hB hg
        go_wp2_with fail
        have hc := fun r => ((Later.refl u6).drew.trans (later_rg u6.drew r))
        have hwd := (Later.refl u6).drew
        have m0 := fun r => (BM.out.later (hc r)).cell 0
        have m1 := fun r => (BM.out.later (hc r)).cell 1
        have y0 := fun r => (BY.out.later (hc r)).cell 0
        have y1 := fun r => (BY.out.later (hc r)).cell 1
        have eN : allN n E = n := by simp [allN, LS.out.1]
        have eF : allF n G E = app G E := by simp [allF, LS.out.1]
        have HNF := hide (And.intro eN eF)
        clear eN eF
        refine wp_region_tree [0, 1] [2] [3, 4, 5] (by kernel_rfl) (by kernel_rfl) (by kernel_rfl) (by kernel_rfl) ?_
        iterate 2 (refine wpT_mild rfl (fun K hK => ?_); go_simp; refine hK _ ?_; clear hK K)
        clear m0 m1 y0 y1 hc
        refine wpT_one (fun v W => Rw 64 W v n (bv (app G E))) (by kernel_rfl) (fun v W W' hl h => h.later hl) (fun W hl => ?_) ?_
        · refine lVal_step rfl (fun K hK => ?_)
          go_simp
          have := iA _ _ _ _ W (MD.out.later (hwd.trans hl))
          rw [HNF.out.1, HNF.out.2] at this
          refine this.mono ?_
          rintro e W' ⟨v', rfl, hl', hr⟩
          exact ⟨v', rfl, hl', hK _ _ hr⟩
        intro vA W hl hA
        change wpL _ _ _ _ (Act.put _ (some 65) _) _
        have hl' := hwd.trans hl
        replace BM := hide (BM.out.later hl')
        replace L := hide (L.out.later hl')
        replace Y := hide (Y.out.later hl')
        replace BY := hide (BY.out.later hl')
        obtain ⟨aB, cB, rfl⟩ := hA.shape
        refine wpL_storeM rfl rfl (.tmp 3) (.tmp 63) rfl w.heap.size rfl py qy n cy ky dy rfl _ BM.out (slices2 _ _ _ _ _ _) rfl w L.out (Nat.le_refl _) ?_
        intro W2 hB2 hL2 hK2
        have Y2 := hide (hK2.med Y.out)
        have R2 := hide (hK2.blocks hA)
        have L2 := hide hL2
        have B2 := hide hB2
        clear hB2 hL2 hK2 hA hl hl' hwd
        refine wpL_cons rfl (fun K hK => ?_)
        go_simp
        refine hK _ _ ?_
        clear hK K
        refine wpL_cons rfl (fun K hK => ?_)
        go_simp
        refine hK _ _ (wpL_nil ?_)
        clear hK K
        go_wp2
        go_roundw
        case rel => exact ⟨q + 1, app G E, [], app G E, [], aB, cB, (py, cy), (qy, dy), ky, by omega, by go_num, rfl, by simp, R2, ⟨World.ownsRow_nil _ _ _ _, fun d hd => by cases hd⟩, B2, Y2, LS.out.flush, L2, fun g hg => by simp [Value.ownBlock] at hg⟩
        case measure => simp [intOf]; omega
      | false =>
        obtain ⟨X, hX⟩ : ∃ X, X = List.replicate 64 fl := ⟨_, rfl⟩
        have HXl : Hid (X.length = 64) := by unfold Hid; rw [hX]; simp
        have cX : Hid (∀ w : World, Calls Try.prog 25 #[.int .u8 (fl.toNat : Int)] w fun e w' => e = .returned (.agg (bv X).toArray) ∧ Later w w') := fun w => by rw [hX]; exact lfilled_c fl w
        clear hX
        go_wp2_with fail
        have hc := fun r => ((Later.refl wr).drew.trans (later_rg wr.drew r))
        have hwd := (Later.refl wr).drew
        have m0 := fun r => (BM.out.later (hc r)).cell 0
        have m1 := fun r => (BM.out.later (hc r)).cell 1
        have j0 := fun r => (hc r).cellOf k0
        have j1 := fun r => (hc r).cellOf k1
        have j2 := fun r => (hc r).cellOf k2
        refine wp_region_bag [0, 1, 2, 3, 4, 5, 6, 7, 8, 9, 10, 11, 12, 13, 14, 15, 16] [17, 18, 19, 20, 21, 22, 23] [22] (by kernel_rfl) (by kernel_rfl) (by kernel_rfl) (by kernel_rfl) ?_
        iterate 11 (refine wpM_mild rfl (fun K hK => ?_); go_simp; refine hK _ ?_; clear hK K)
        refine wpM_call rfl (by kernel_rfl) 25 (Plain.of (by kernel_rfl)) [.tmp 77] _ rfl [.int .u8 (fl.toNat : Int)] rfl (.agg (bv X).toArray) (fun wx hx => cX.out wx) ?_
        iterate 5 (refine wpM_mild rfl (fun K hK => ?_); go_simp; refine hK _ ?_; clear hK K)
        clear m0 m1 j0 j1 j2 hc
        by_cases hin : 0 ≤ at_ ∧ at_ < n
        · have HW := hide (LS.out.write at_ X th hin.1 hin.2 HXl.out)
          refine wpM_nil (call2_medX 17 18 19 20 21 22 23 rfl rfl rfl rfl rfl rfl rfl rfl rfl rfl rfl rfl rfl rfl _ _ _ _ _ _ rfl rfl rfl rfl rfl rfl rfl rfl (by decide) 11 (Plain.of (by kernel_rfl)) [.tmp 67, .tmp 72, .tmp 78, .tmp 83] _ rfl [.agg #[.slice p1 n p2, .slice s1 kE s2], .int .i64 at_, .agg (bv X).toArray, .bool th] rfl rfl rfl rfl rfl rfl rfl (by decide) (by kernel_rfl) (by kernel_rfl) (by kernel_rfl) (by kernel_rfl) (by kernel_rfl) (by kernel_rfl) (by kernel_rfl) 0 n (wrF n G E at_ X th) (wrD n E at_ X th) (fun v => ∀ g, g < wr.heap.size → OffM g v) ?_ ?_)
          · intro wx hx
            have := iW _ _ _ _ at_ X th wx (MD.out.later (hwd.trans hx)) HXl.out hz.1 hz.2
            rw [HW.out.1, HW.out.2.1] at this
            refine this.mono ?_
            rintro e w' ⟨v', he, hl, hm, ho⟩
            exact ⟨v', he, hl, hm, fun g hg => ho g (Nat.lt_of_lt_of_le hg (hwd.trans hx).size)⟩
          intro py cy qy ky dy gy u6 hl hgy HKy hM hOX hB
          have hl' := hwd.trans hl
          have hgz : Hid (w.heap.size < wr.heap.size) := BM.out.lt
          have HOKX : Hid (Ok [(at_, X)]) := fun d hd => by
            have : d = (at_, X) := by simpa using hd
            subst this
            exact ⟨HXl.out, hz.1, hz.2⟩
          have OW' := hide (And.intro (owns_later OW.out.1 hl') OW.out.2)
          have hlt0 := hide OW.out.1.lt
          replace BM := hide (BM.out.later hl')
          replace L := hide (L.out.later hl')
          replace RA := hide (RA.out.later hl')
          have Y := hide hM
          have BY := hide hB
          have OFY := hide (fun g hg => hOX g (hlt0.out g hg).2)
          have k0' := hl'.cellOf k0
          have k1' := hl'.cellOf k1
          have h0 := hin.1
          have h1 := hin.2
          clear hl hl' hM hB hOX k0 k1 k2 k3 hwd OW hlt0 MD hin
          go_wp2_with fail
          have hc := fun r => ((Later.refl u6).drew.trans (later_rg u6.drew r))
          have hwd := (Later.refl u6).drew
          have y0 := fun r => (BY.out.later (hc r)).cell 0
          have y1 := fun r => (BY.out.later (hc r)).cell 1
          have j0 := fun r => (hc r).cellOf k0'
          have j1 := fun r => (hc r).cellOf k1'
          refine wp_region_bag [1, 2, 3, 4, 5, 6, 7, 8, 9, 10, 11, 12, 13] [0, 14, 15, 16, 17] [15, 16] (by kernel_rfl) (by kernel_rfl) (by kernel_rfl) (by kernel_rfl) ?_
          iterate 11 (refine wpM_mild rfl (fun K hK => ?_); go_simp; refine hK _ ?_; clear hK K)
          refine wpM_call rfl (by kernel_rfl) 25 (Plain.of (by kernel_rfl)) [.tmp 119] _ rfl [.int .u8 (fl.toNat : Int)] rfl (.agg (bv X).toArray) (fun wx hx => cX.out wx) ?_
          refine wpM_mild rfl (fun K hK => ?_)
          go_simp
          rw [dirty_build (.int .i64 at_) (bv X) zc65 rfl (by rw [bv_length, HXl.out])]
          refine ⟨_, fun p => ⟨rfl, rfl⟩, hK _ ?_⟩
          clear hK K y0 y1 j0 j1 hc
          have hdv : Hid (dv [(at_, X)] = .int .i64 at_ :: bv X) := by simp [Hid, dv]
          have hgg : gy ≠ w.heap.size := by
            have h1 := BM.out.lt
            have h2 : wr.heap.size ≤ gy := hgy
            have h3 := hgz.out
            omega
          have hW10 : u6.drew.ownsRow w.heap.size 53 65 u10 Wt.length (dv Wt) := owns_later OW'.out.1 hwd
          refine wpM_nil (bag_of (fun i => match i with | 15 => [14] | 16 => [0, 14, 15] | 17 => [0, 14, 15, 16] | _ => [])
            (fun W => Later w W ∧ Box W gy 25 [.slice py n cy, .slice qy ky dy] ∧ Med W (.agg #[.slice py n cy, .slice qy ky dy]) n (wrF n G E at_ X th) (wrD n E at_ X th) ∧ Rw 64 W (.slice aA n cA) n (bv A) ∧ ∃ cs, Slices cs ∧ cs.length = 2 ∧ Box W w.heap.size 25 cs)
            (fun i vals W => match i with
              | 0 => vals 0 = .agg #[.slice py n cy, .slice qy ky dy]
              | 14 => Rw 65 W (vals 14) 1 (dv [(at_, X)]) ∧ ∀ g, u10.ownBlock = some g → OffS g (vals 14)
              | 15 => W.ownsRow w.heap.size 53 65 (vals 15) (Wt.length + 1) (dv Wt ++ dv [(at_, X)]) ∧ ∀ g, (vals 15).ownBlock = some g → OffS g (.slice aA n cA) ∧ OffM g (.agg #[.slice py n cy, .slice qy ky dy])
              | 16 => Box W w.heap.size 25 [.slice py n cy, .slice qy ky dy]
              | 17 => vals 17 = vals 15
              | _ => True) (by kernel_rfl) (by kernel_rfl) ?c1 ?c2 ?c3 ?c4 ?c5 ?c6 ?c7 ?c8)
          case c1 => exact ⟨L.out.trans hwd, BY.out.later hwd, Y.out.later hwd, RA.out.later hwd, _, slices2 _ _ _ _ _ _, rfl, BM.out.later hwd⟩
          case c2 =>
            rintro W W' hl ⟨a1, a2, a3, a4, cs, a5, a6, a7⟩
            exact ⟨a1.trans hl, a2.later hl, a3.later hl, a4.later hl, cs, a5, a6, a7.later hl⟩
          case c3 =>
            intro i hi vals W W' hl h
            simp only [List.mem_cons, List.not_mem_nil, or_false] at hi
            rcases hi with rfl | rfl | rfl | rfl | rfl
            · exact h
            · exact ⟨Rw.later h.1 hl, h.2⟩
            · exact ⟨owns_later h.1 hl, h.2⟩
            · exact Box.later h hl
            · exact h
          case c4 =>
            intro i hi k hk hne hds vals v W h
            simp only [List.mem_cons, List.not_mem_nil, or_false] at hi hk
            rcases hi with rfl | rfl | rfl | rfl | rfl <;> rcases hk with rfl | rfl | rfl | rfl | rfl <;> first | (exact absurd rfl hne) | (simp at hds; done) | (simpa [upd] using h)
          case c5 =>
            rintro i hi hni vals W ⟨a1, a2, a3, a4, cs, a5, a6, a7⟩ hlb hdep
            simp only [List.mem_cons, List.not_mem_nil, or_false] at hi
            rcases hi with rfl | rfl | rfl | rfl | rfl
            · have y0 := a2.cell 0
              have y1 := a2.cell 1
              refine lVal_step rfl (fun K hK => ?_)
              simp only [putAll, List.foldl]
              go_simp
              exact ⟨Later.refl _, hK _ _ (by simp [upd])⟩
            · have hlW := hlb (by simp)
              refine lVal_buildOne Try.elem_dirty Try.underlying23 z65_size (by decide) (by decide) rfl rfl (.tmp 121) rfl (.int .i64 at_ :: bv X) rfl (by simp [bv_length, HXl.out]) ?_
              intro h
              show Rw 65 _ (upd vals 14 _ 14) 1 (dv [(at_, X)]) ∧ ∀ g, u10.ownBlock = some g → OffS g (upd vals 14 _ 14)
              rw [upd_same, hdv.out]
              refine ⟨h, fun g hg => .inr fun e => ?_⟩
              have h1 := (hW10.lt g hg).2
              have h2 := hlW.size
              have e' : W.heap.size = g := e
              omega
            · exact absurd (by simp) hni
            · exact absurd (by simp) hni
            · refine lVal_of_run rfl rfl (vals 15) W (run_assign (.tmp 123) rfl _ ?_ W) (Later.refl W) ?_
              · rfl
              · show upd vals 17 _ 17 = upd vals 17 _ 15
                simp [upd]
          case c6 =>
            rintro i hi hni vals W ⟨a1, a2, a3, a4, cs, a5, a6, a7⟩ hlb hdep
            simp only [List.mem_cons, List.not_mem_nil, or_false] at hni
            rcases hni with rfl | rfl
            · have hlW := hlb (by simp)
              have h14 := hdep 14 (by simp)
              obtain ⟨v', W', r1, r2, r3, r4⟩ := run_append_rw2 (P := Try.prog) (ty := 23) Try.elem_dirty Try.underlying23 z65_size (by decide) w.heap.size u10 Wt.length (dv Wt) (owns_later hW10 hlW) (vals 14) 1 _ h14.1 (dv_one _) (by omega) (by unfold maxLen; omega) a1.size
              have hoffA : ∀ g, u10.ownBlock = some g → OffS g (.slice aA n cA) := fun g hg => (OFF.out g hg).1
              have hoffY : ∀ g, u10.ownBlock = some g → OffM g (.agg #[.slice py n cy, .slice qy ky dy]) := fun g hg => OFY.out g hg
              refine sVal_of_run rfl rfl v' W' ?_ ⟨⟨?_, box_grown a2 (owns_later hW10 hlW) (by decide) r3, keepMed r3 hoffY a3, keepRw r3 hoffA a4, cs, a5, a6, box_grown a7 (owns_later hW10 hlW) (by decide) r3⟩, ?_, ?_⟩
              · exact run_append_op (.tmp 109) (.tmp 122) 23 rfl u10 (vals 14) rfl rfl r1
              · exact Below.grown a1 r3 a1.size (fun j hj => (hW10.lt j hj).1)
              · show W'.ownsRow _ _ _ (upd vals 15 v' 15) _ _ ∧ ∀ g, (upd vals 15 v' 15).ownBlock = some g → _
                rw [upd_same]
                refine ⟨r2, fun g hg => ?_⟩
                rcases r4 g hg with h | h
                · exact ⟨hoffA g h, hoffY g h⟩
                · exact ⟨a4.old (by decide) h, a3.old h⟩
              · intro k hk
                have : k = 14 := by simpa using hk
                subst this
                exact ⟨keepRw r3 h14.2 h14.1, h14.2⟩
            · have h0' : vals 0 = .agg #[.slice py n cy, .slice qy ky dy] := hdep 0 (by simp)
              have h14 := hdep 14 (by simp)
              have h15 := hdep 15 (by simp)
              have hKp := kept_set a7 a5 a6 (.slice py n cy) (.slice qy ky dy)
              have hBn : Box (W.setCells w.heap.size 0 [.slice py n cy, .slice qy ky dy]) w.heap.size 25 [.slice py n cy, .slice qy ky dy] := by
                have := a7.setCells [.slice py n cy, .slice qy ky dy] 0 (by simp; omega)
                rw [List.take_zero, List.nil_append, List.drop_of_length_le (by simp; omega), List.append_nil] at this
                exact this
              refine sVal_store rfl rfl 25 (.tmp 3) (.tmp 108) rfl w.heap.size [.slice py n cy, .slice qy ky dy] rfl ?_ (by simpa using a7.there 0 2 (by omega)) (zero_of_info Try.zero_medium).2 (by simp [Value.oneCell']) (fun u => ⟨⟨a1.setCells (Nat.le_refl _) _ 0, ?_, hKp.med a3, hKp.blocks a4, _, slices2 _ _ _ _ _ _, rfl, hBn⟩, hBn, ?_⟩)
              · exact h0'
              · unfold Box; rw [hKp.1 gy hgg]; exact a2
              · intro k hk
                simp only [List.mem_cons, List.not_mem_nil, or_false] at hk
                rcases hk with rfl | rfl | rfl
                · exact h0'
                · exact ⟨hKp.2.2 _ _ _ _ (fun _ _ _ => dv_noslice _) h14.1, h14.2⟩
                · exact ⟨hKp.owns a7 h15.1 (by decide), h15.2⟩
          case c7 =>
            intro i hi hni k hk hne hd1 hd2 vals W W' h
            simp only [List.mem_cons, List.not_mem_nil, or_false] at hni hk
            rcases hni with rfl | rfl <;> rcases hk with rfl | rfl | rfl | rfl | rfl <;> first | (exact absurd rfl hne) | (simp at hd1; done) | (simp at hd2; done) | exact h
          case c8 =>
            rintro vals W ⟨a1, a2, a3, a4, cs, a5, a6, a7⟩ hall
            have z0 : vals 0 = .agg #[.slice py n cy, .slice qy ky dy] := hall 0 (by simp)
            have z15 := hall 15 (by simp)
            have z16 : Box W w.heap.size 25 [.slice py n cy, .slice qy ky dy] := hall 16 (by simp)
            have z17 : vals 17 = vals 15 := hall 17 (by simp)
            have OWN := hide z15.1
            have OFFN := hide z15.2
            have BMN := hide z16
            have LN := hide a1
            have MDN := hide a3
            have RAN := hide a4
            change Exit.inBlock _ _ _ (Act.put (Act.put (Act.put (Act.put (Act.put _ (some 108) (vals 0)) (some 122) (vals 14)) (some 123) (vals 15)) none (vals 16)) (some 10) (vals 17)) _
            rw [z17, z0]
            generalize vals 14 = v14 at *
            generalize vals 15 = v15 at *
            clear hall z15 z16 a1 a2 a3 a4 a5 a6 a7 z0 z17
            go_wp2
            go_roundw
            case rel => exact ⟨q + 1, wrF n G E at_ X th, wrD n E at_ X th, A, Wt ++ [(at_, X)], aA, cA, (py, cy), (qy, dy), ky, by omega, by go_num, rfl, by simp; omega, RAN, ⟨by rw [dv_append, List.length_append]; exact OWN.out, OW'.out.2.append (HOKX.out)⟩, BMN, MDN, HW.out.2.2, LN, OFFN⟩
            case measure => simp [intOf]; omega
        · have HW := hide (write_out LS.out.1 at_ hin)
          refine wpM_nil (call2_med 17 18 19 20 21 22 23 rfl rfl rfl rfl rfl rfl rfl rfl rfl rfl rfl rfl rfl rfl _ _ _ _ _ _ rfl rfl rfl rfl rfl rfl rfl rfl (by decide) 11 (Plain.of (by kernel_rfl)) [.tmp 67, .tmp 72, .tmp 78, .tmp 83] _ rfl [.agg #[.slice p1 n p2, .slice s1 kE s2], .int .i64 at_, .agg (bv X).toArray, .bool th] rfl rfl rfl rfl rfl rfl rfl (by decide) (by kernel_rfl) (by kernel_rfl) (by kernel_rfl) (by kernel_rfl) (by kernel_rfl) (by kernel_rfl) (by kernel_rfl) 5 (wrN n E at_) (wrF n G E at_ X th) (wrD n E at_ X th) ?_ ?_)
          · intro wx hx
            have := iW _ _ _ _ at_ X th wx (MD.out.later (hwd.trans hx)) HXl.out hz.1 hz.2
            rw [HW.out] at this
            exact this.mono fun e w' ⟨v', he, hl, hm, _⟩ => ⟨v', he, hl, hm⟩
          intro py cy qy ky dy gy u6 hl hgy HKy hM hB
          have hl' := hwd.trans hl
          have k0' := hl'.cellOf k0
          have OW' := hide (And.intro (owns_later OW.out.1 hl') OW.out.2)
          replace BM := hide (BM.out.later hl')
          replace L := hide (L.out.later hl')
          replace MD := hide (MD.out.later hl')
          replace RA := hide (RA.out.later hl')
          clear hl hl' hM hB k0 k1 k2 k3 hwd OW
          by_cases h0 : 0 ≤ at_
          · have h1 : ¬ at_ < n := fun h => hin ⟨h0, h⟩
            go_wp2
            go_roundw
            case rel => exact ⟨q + 1, G, E, A, Wt, aA, cA, (p1, p2), (s1, s2), kE, by omega, by go_num, rfl, by omega, RA, OW', BM, MD, LS, L, OFF⟩
            case measure => simp [intOf]; omega
          · go_wp2
            go_roundw
            case rel => exact ⟨q + 1, G, E, A, Wt, aA, cA, (p1, p2), (s1, s2), kE, by omega, by go_num, rfl, by omega, RA, OW', BM, MD, LS, L, OFF⟩
            case measure => simp [intOf]; omega
    · have HLo := hide (LS.out.lose mk)
      have hqk : q = ka := by omega
      have OWl := OW
      obtain ⟨kW, hkW⟩ : ∃ kW, kW = Wt.length := ⟨_, rfl⟩
      have RW := hide (Rw.of_owns OW.out.1)
      rw [← hkW] at RW
      obtain ⟨aW, cW, rfl⟩ := RW.out.shape
      have HKW := hide hkW
      have HOW := hide OW.out.2
      have hkW1 : kW ≤ 100 := by omega
      clear hkW OW OWl ACT hqk
      have m0 := BM.out.cell 0
      have m1 := BM.out.cell 1
      go_wp2_with fail
      have hcl := iL _ _ _ _ mk _ MD.out hmk
      rw [HLo.out.1, HLo.out.2.1] at hcl
      refine hcl.mono ?_
      clear hcl m0 m1
      rintro e ww5 ⟨vz, rfl, hl, hA⟩
      replace L := hide (L.out.later hl)
      replace RA := hide (RA.out.later hl)
      replace RW := hide (RW.out.later hl)
      have Z := hide hA
      obtain ⟨pz, cz, qz, kz, dz, rfl, HKz, hnz, hkz⟩ := hA.shape
      clear hA hl
      go_wp2_with (refine wpList_newM rfl rfl rfl 16 rfl (by simp) (.tmp 128) (by simp) rfl pz qz _ cz kz dz rfl ?_)
      intro gz ww6 hB hl hg
      replace L := hide (L.out.later hl)
      replace RA := hide (RA.out.later hl)
      replace RW := hide (RW.out.later hl)
      replace Z := hide (Z.out.later hl)
      have BZ := hide hB
      clear hl hB hg
      obtain rfl : kz = 0 := HKz.out
      have z0 := BZ.out.cell 0
      have z1 := BZ.out.cell 1
      have MAY := hide HLo.out.2.2.2
      have hGl := hide HLo.out.2.2.1
      have hAl := hide LS.out.2.2.2.1
      generalize loseF n G E mk = H at *
      clear HLo BM MD
      go_wp2_with fail
      clear z0 z1
      go_loopw [18] (fun i W => ∃ b : Nat, b ≤ n ∧ i = .int .i64 b ∧ Hid (Later ww6 W)) (fun i _ => n - (intOf i).toNat)
      case atStart => exact ⟨0, Nat.zero_le _, rfl, Later.refl ww6⟩
      case round =>
        obtain ⟨b, hb, rfl, hlb⟩ := hrel
        by_cases hbn : b < n
        · obtain ⟨bz, oz, rfl, rz⟩ := (Z.out.blocks).lies? (by omega)
          obtain ⟨bA, oA, rfl, rA⟩ := (RA.out).lies? (by omega)
          have RZ : Hid (ww6.rangeAt bz (oz + b * 64) (bv (blk H b))) := by have := range_part rz (b * 64) 64; rw [bv_part] at this; exact this
          have RB : Hid (ww6.rangeAt bA (oA + b * 64) (bv (blk A b))) := by have := range_part rA (b * 64) 64; rw [bv_part] at this; exact this
          have lH : Hid ((blk H b).length = 64) := seg_length H (b * 64) 64 (by have := hGl.out; omega)
          have lA : Hid ((blk A b).length = 64) := seg_length A (b * 64) 64 (by have := hAl.out; omega)
          clear rz rA
          go_wp2_with fail
          have hc := fun r => hlb.out.trans ((Later.refl wr).drew.trans (later_rg wr.drew r))
          have hlw := hlb.out.trans (Later.refl wr).drew
          have z0 := fun r => (BZ.out.later (hc r)).cell 0
          refine wp_region_sched ((List.range 11).map fun i => (i, false)) (by kernel_rfl) (by kernel_rfl) (by kernel_rfl) (by kernel_rfl) ?_
          simp only [List.range, List.range.loop, List.map]
          iterate 4 (refine wpS_mild rfl (fun K hK => ?_); go_simp; refine hK _ ?_; clear hK K)
          refine wpS_load rfl rfl 27 (.tmp 155) rfl bz (oz + b * 64) rfl (bv (blk H b)) _ (hlw.range RZ.out) Try.underlying27 rfl (by rw [Try.info_block, bv_length, lH.out]) ?_
          iterate 3 (refine wpS_mild rfl (fun K hK => ?_); go_simp; refine hK _ ?_; clear hK K)
          refine wpS_load rfl rfl 27 (.tmp 159) rfl bA (oA + b * 64) rfl (bv (blk A b)) _ (hlw.range RB.out) Try.underlying27 rfl (by rw [Try.info_block, bv_length, lA.out]) ?_
          refine wpS_eqG rfl rfl 27 27 (.tmp 156) (.tmp 160) rfl _ _ rfl rfl Try.guard_block (isB H A Wt b 0) (fun w => by rw [block_eq _ _ lH.out lA.out, isB_zero]) ?_
          iterate 1 (refine wpS_mild rfl (fun K hK => ?_); go_simp; refine hK _ ?_; clear hK K)
          refine wpS_nil (fun wx hx => ?_)
          have LX := hide (hlw.trans hx)
          clear hc hlw z0 hx hlb
          go_wp2_with fail
          go_loopw [19, 20] (fun is k W => ∃ q : Nat, q ≤ kW ∧ k = .int .i64 q ∧ is = .bool (isB H A Wt b q) ∧ Hid (Later ww6 W)) (fun _ k _ => kW - (intOf k).toNat)
          case atStart => exact ⟨0, Nat.zero_le _, rfl, rfl, LX⟩
          case round =>
            clear LX
            obtain ⟨q', hq', rfl, rfl, hlq⟩ := hrel
            by_cases hqk : q' < kW
            · obtain ⟨bW, oW, rfl, rW⟩ := (RW.out).lies? (by omega)
              have hqW : q' < Wt.length := by have := HKW.out; omega
              have hsucc := hide (isB_succ H A Wt b q' hqW)
              have hcell := rW _ _ (dv_at Wt q' hqW HOW.out)
              have hok := HOW.out Wt[q'] (List.getElem_mem hqW)
              have RD : Hid (ww6.rangeAt bW (oW + q' * 65 + 1) (bv Wt[q'].2)) := by
                have := range_part rW (q' * 65) 65
                rw [dv_part Wt q' hqW HOW.out] at this
                exact range_tail this
              generalize hd : Wt[q'] = dd at *
              obtain ⟨da, dX⟩ := dd
              have lD := hide hok.1
              have hda := hok.2
              clear hd rW hok
              go_wp2_with fail
              have hc := fun r => hlq.out.trans ((Later.refl wr).drew.trans (later_rg wr.drew r))
              have hlw := hlq.out.trans (Later.refl wr).drew
              have z0 := fun r => (BZ.out.later (hc r)).cell 0
              have j0 := fun r => (hc r).cellOf hcell
              refine wp_region_sched ((List.range 24).map fun i => (i, false)) (by kernel_rfl) (by kernel_rfl) (by kernel_rfl) (by kernel_rfl) ?_
              simp only [List.range, List.range.loop, List.map]
              cases hib : isB H A Wt b q' with
              | true =>
                iterate 24 (refine wpS_mild rfl (fun K hK => ?_); go_simp; refine hK _ ?_; clear hK K)
                refine wpS_nil (fun wx hx => ?_)
                have LX := hide (hlw.trans hx)
                clear hc hlw z0 j0 hx
                go_wp2
                go_roundw
                case rel => exact ⟨q' + 1, by omega, by go_num, by rw [hsucc.out, hib]; simp, LX⟩
                case measure => simp [intOf]; omega
              | false =>
                by_cases hda' : da = (b : Int)
                · subst hda'
                  iterate 14 (refine wpS_mild rfl (fun K hK => ?_); go_simp; refine hK _ ?_; clear hK K)
                  refine wpS_loadG rfl (by kernel_rfl) 27 (.tmp 181) rfl bz (oz + b * 64) rfl (bv (blk H b)) _ (hlw.range RZ.out) Try.underlying27 rfl (by rw [Try.info_block, bv_length, lH.out]) ?_
                  iterate 4 (refine wpS_mild rfl (fun K hK => ?_); go_simp; refine hK _ ?_; clear hK K)
                  refine wpS_loadG rfl (by kernel_rfl) 27 (.tmp 186) rfl bW (oW + q' * 65 + 1) rfl (bv dX) _ (hlw.range RD.out) Try.underlying27 rfl (by rw [Try.info_block, bv_length, lD.out]) ?_
                  refine wpS_eqG rfl (by kernel_rfl) 27 27 (.tmp 182) (.tmp 187) rfl _ _ rfl rfl Try.guard_block (blk H b == dX) (fun w => by rw [block_eq _ _ lH.out lD.out]) ?_
                  iterate 3 (refine wpS_mild rfl (fun K hK => ?_); go_simp; refine hK _ ?_; clear hK K)
                  refine wpS_nil (fun wx hx => ?_)
                  have LX := hide (hlw.trans hx)
                  clear hc hlw z0 j0 hx
                  go_wp2
                  go_roundw
                  case rel => exact ⟨q' + 1, by omega, by go_num, by rw [hsucc.out, hib]; simp, LX⟩
                  case measure => simp [intOf]; omega
                · have hne : (da == (b : Int)) = false := by simpa using hda'
                  iterate 24 (refine wpS_mild rfl (fun K hK => ?_); go_simp; refine hK _ ?_; clear hK K)
                  refine wpS_nil (fun wx hx => ?_)
                  have LX := hide (hlw.trans hx)
                  clear hc hlw z0 j0 hx
                  go_wp2
                  go_roundw
                  case rel => exact ⟨q' + 1, by omega, by go_num, by rw [hsucc.out, hib]; simp [hda'], LX⟩
                  case measure => simp [intOf]; omega
            · have hall : isB H A Wt b q' = true := by
                have h1 := HKW.out
                rw [show q' = Wt.length from by omega]
                exact isB_all MAY.out b hbn
              rw [hall]
              go_wp2
              go_roundw
              case rel => exact ⟨b + 1, by omega, by go_num, hlq⟩
              case measure => simp [intOf]; omega
        · go_wp2
          go_ret
          exact ⟨rfl, L.out.trans hlb.out⟩
end Go.Proofs.Ytphgjofiploahaa
