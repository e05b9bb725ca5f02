import Derived.Test.YtphgjofiploahaaR3c
import Derived.Deep.Onto
namespace Go.Proofs.Ytphgjofiploahaa
open Go.ChangeShapes Go.WideShapes Go.ChangeAt Go.RowKit
set_option linter.unusedVariables false
set_option linter.unusedSimpArgs false

/-- the cached writes laid over the blocks, one behind the other -/
def app (F : List UInt8) (D : List Drt) : List UInt8 := D.foldl (fun F d => over F (d.1.toNat * 64) d.2) F
theorem app_snoc (F : List UInt8) (D : List Drt) (d : Drt) : app F (D ++ [d]) = over (app F D) (d.1.toNat * 64) d.2 := by simp [app]
def Fit (n : Nat) (D : List Drt) : Prop := ∀ d ∈ D, d.2.length = 64 ∧ 0 ≤ d.1 ∧ d.1 < n
theorem app_length (n : Nat) : ∀ (D : List Drt) (F : List UInt8), F.length = n * 64 → Fit n D → (app F D).length = n * 64
  | [], F, hF, _ => by simpa [app] using hF
  | d :: D, F, hF, h => by
    have hd := h d (by simp)
    show (app (over F (d.1.toNat * 64) d.2) D).length = n * 64
    exact app_length n D _ (by rw [over_length _ _ _ (by rw [hF, hd.1]; omega), hF]) fun x hx => h x (by simp [hx])
theorem fit_of_right {n : Nat} {D : List Drt} (h : rightB n D = true) (ho : Ok D) : Fit n D := fun d hd => by
  simp only [rightB, decide_eq_true_eq] at h
  exact ⟨(ho d hd).1, (h.2.2 d hd).1, (h.2.2 d hd).2⟩

def allF (n : Nat) (F : List UInt8) (D : List Drt) : List UInt8 := if rightB n D then app F D else []
def allN (n : Nat) (D : List Drt) : Nat := if rightB n D then n else 0

theorem range_tail {w : World} {b o : Nat} {x : Value} {xs : List Value} (h : w.rangeAt b o (x :: xs)) : w.rangeAt b (o + 1) xs := fun j v hv => by
  have := h (j + 1) v (by simpa using hv)
  rwa [show o + (j + 1) = o + 1 + j from by omega] at this
theorem owns_head {w : World} {B : Nat} {e : TypeId} {sz : Nat} {v : Value} {n : Nat} {xs : List Value} (h : w.ownsRow B e sz v n xs) (hn : 0 < n) : ∃ g cap, v = .slice (some ⟨g, 0, none⟩) n cap ∧ B ≤ g := by
  rcases h.2 with ⟨_, h0⟩ | ⟨g, cap, cur, rfl, hb, _⟩
  · omega
  · exact ⟨g, cap, rfl, hb⟩
theorem wpT_loadG {P : Program} {ops : Array Oper} {Q : Exit → Act → World → Prop} {τ : List Nat} {i : Nat} {o : Oper} {σ μ : List Nat} {a : Act} {b : World} (ho : ops[i]? = some o) (hw : Region.wanted o (yielded ops a.tmps) = true) (ty : TypeId) (x : Operand) (hop : o.op = .load ty x)
    (k off : Nat) (hx : a.eval x = .pointer (some ⟨k, off, none⟩)) (cs : List Value) (d : TypeDesc) (hc : b.rangeAt k off cs) (hu : P.underlying ty = some d) (hd : d.isRow = true) (hi : (P.info? ty).map (·.size) = some cs.length)
    (h : wpT P ops Q τ σ μ (a.put o.dst (.agg cs.toArray)) b) : wpT P ops Q τ σ (i :: μ) a b := by
  refine ⟨o, ho, ?_⟩
  rw [if_pos hw]
  refine ⟨.agg cs.toArray, fun w hl => ?_, h⟩
  unfold execOp
  simp only [hop, hx, Instr.loadAt, Instr.sureAddr, Sem.run_bind, Sem.run_pure, Result.andThen_ok, run_loadVar_mid w k off ty cs d (hl.range hc) hu hd hi]
  simp [Oper.mildUpon]
theorem wpL_store {P : Program} {ops : Array Oper} {Q : Exit → Act → World → Prop} {τ : List Nat} {i : Nat} {o : Oper} {a : Act} {w : World} (ho : ops[i]? = some o) (hw : Region.wanted o (yielded ops a.tmps) = true) (ty : TypeId) (x y : Operand) (hop : o.op = .store ty x y)
    (b off : Nat) (cs : List Value) (hx : a.eval x = .pointer (some ⟨b, off, none⟩)) (hy : a.eval y = .agg cs.toArray) (ht : w.there b off cs.length) (hi : (P.info? ty).map (·.size) = some cs.length) (h1 : ∀ u ∈ cs, u.oneCell' = true)
    (h : wpL P ops Q τ (a.put o.dst undef) (w.setCells b off cs)) : wpL P ops Q (i :: τ) a w := by
  refine wpL_cons ho (fun K hK => ?_)
  rw [if_pos hw]
  exact wp_store_mid ty x y hop b off cs.toArray hx hy (by simpa using ht) (by simpa using hi) (all_oneCell_toArray h1) (hK _ _ h)
theorem owns_later {w w' : World} {B : Nat} {e : TypeId} {sz : Nat} {v : Value} {n : Nat} {xs : List Value} (h : w.ownsRow B e sz v n xs) (hl : Later w w') : w'.ownsRow B e sz v n xs :=
  owns_kept h fun g hg => hl.block g (h.lt g hg).2

set_option maxHeartbeats 1000000 in
theorem rall_c {v : Value} {n : Nat} {F : List UInt8} {D : List Drt} (w : World) (h : Med w v n F D) :
    Calls Try.prog 20 #[v] w fun e w' => ∃ v', e = .returned v' ∧ Later w w' ∧ w'.ownsRow w.heap.size 27 64 v' (allN n D) (bv (allF n F D)) := by
  have HM := hide h
  obtain ⟨vb, vd, rfl, hb, hd, hok⟩ := h
  obtain ⟨ab, cb, rfl⟩ := hb.shape
  obtain ⟨k, hk⟩ : ∃ k, k = D.length := ⟨_, rfl⟩
  rw [← hk] at hd
  obtain ⟨aD, cD, rfl⟩ := hd.shape
  have hkm := hd.2.1
  unfold maxLen at hkm
  have HB := hide hb
  have HD := hide hd
  have HK := hide hk
  have HO := hide hok
  clear hb hd hk hok
  have BX0 := hide (Box.new w 25 #[.slice ab n cb, .slice aD k cD])
  have L0 := hide ((Later.refl w).alloc (.cells #[.slice ab n cb, .slice aD k cD] 25))
  go_enter Try.func20, Try.ntmps20
  go_wp2_with fail
  generalize (w.alloc (.cells #[.slice ab n cb, .slice aD k cD] 25)) = w1 at *
  refine (rright_c w1 (HM.out.later L0.out)).mono ?_
  rintro e w2 ⟨rfl, hl2⟩
  have L2 := hide (L0.out.trans hl2)
  have BX := hide (Box.later BX0.out hl2)
  clear hl2 L0 BX0
  have d0 := BX.out.cell 0
  have d1 := BX.out.cell 1
  by_cases hR : rightB n D = true
  case neg =>
    have hR' : rightB n D = false := by simpa using hR
    rw [hR']
    go_wp2
    go_ret
    refine ⟨_, rfl, L2.out, ?_⟩
    simp only [allN, allF, hR']
    exact World.ownsRow_nil _ _ _ _
  rw [hR]
  have hfit := hide (fit_of_right hR HO.out)
  have hn64 : n ≤ 64 := by simp only [rightB, decide_eq_true_eq] at hR; exact hR.1
  go_wp2_with fail
  refine (rcopy_c w2 w2.heap.size (Nat.le_refl _) (HB.out.later L2.out) (by omega)).mono ?_
  rintro e w3 ⟨v3, rfl, hl3, ho3⟩
  have L3 := hide hl3
  have O3 := hide ho3
  clear hl3 ho3 d0 d1
  have d0 := (Box.later BX.out L3.out).cell 0
  have d1 := (Box.later BX.out L3.out).cell 1
  go_wp2_with fail
  go_loopw [4] (fun i wr => ∃ q : Nat, q ≤ k ∧ i = .int .i64 q ∧ Hid (Later w2 wr) ∧ Hid (wr.ownsRow w2.heap.size 27 64 v3 n (bv (app F (D.take q))))) (fun i _ => k - (intOf i).toNat)
  case atStart => exact ⟨0, Nat.zero_le _, rfl, L3, by simpa [app] using O3⟩
  case round =>
    clear d0 d1
    obtain ⟨q, hq, rfl, hl, ho⟩ := hrel
    have d0 := (Box.later BX.out hl.out).cell 0
    have d1 := (Box.later BX.out hl.out).cell 1
    by_cases hlt : q < k
    · have hqD : q < D.length := by have := HK.out; omega
      have hdq := hfit.out D[q] (List.getElem_mem hqD)
      obtain ⟨z, hz⟩ := Int.eq_ofNat_of_zero_le hdq.2.1
      have hzn : z < n := by have := hdq.2.2; omega
      obtain ⟨bD, oD, e, hr⟩ := (HD.out.later (L2.out.trans hl.out)).lies? (by omega)
      subst e
      have hra := range_part hr (q * 65) 65
      rw [dv_part D q hqD HO.out] at hra
      have hat := hr _ _ (dv_at D q hqD HO.out)
      rw [hz] at hat
      have hrd := hide (range_tail hra)
      have hdl := hide hdq.1
      obtain ⟨g, capg, e, hg⟩ := owns_head ho.out (by omega)
      subst e
      have happ : Hid (app F (D.take (q + 1)) = over (app F (D.take q)) (z * 64) D[q].2) := by
        unfold Hid
        rw [List.take_succ_eq_append_getElem hqD, app_snoc, hz]
        rfl
      have hlenA : Hid ((app F (D.take q)).length = n * 64) := by
        refine app_length n _ F ?_ fun x hx => hfit.out x (List.mem_of_mem_take hx)
        have := HB.out.1
        rwa [bv_length] at this
      generalize D[q].2 = X at *
      clear hra hr hdq hz
      have g1 := fun r => (Box.later BX.out (hl.out.trans ((Later.refl wr).drew.trans (later_rg wr.drew r)))).cell 1
      have g2 := fun r => ((Later.refl wr).drew.trans (later_rg wr.drew r)).cellOf hat
      go_wp2_with fail
      refine wp_region_tree [0, 1, 2, 3, 4, 5, 6, 7, 8, 9, 10, 11, 12, 13] [] [14] (by kernel_rfl) (by kernel_rfl) (by kernel_rfl) (by kernel_rfl) ?_
      iterate 12 (refine wpT_mild rfl (fun K hK => ?_); go_simp; refine hK _ ?_; clear hK K)
      refine wpT_loadG rfl (by kernel_rfl) 27 (.tmp 29) rfl bD (oD + q * 65 + 1) rfl (bv X) _ ((World.rangeAt_drew _ _ _ _).2 hrd.out) Try.underlying27 rfl (by rw [Try.info_block, bv_length, hdl.out]) ?_
      iterate 1 (refine wpT_mild rfl (fun K hK => ?_); go_simp; refine hK _ ?_; clear hK K)
      refine wpT_done (fun wx hwx => ?_)
      have ox := owns_later ho.out ((Later.refl wr).drew.trans hwx)
      have hlx : Later w2 wx := hl.out.drew.trans hwx
      have ht : wx.there g (z * 64) (bv X).length := by
        rw [bv_length, hdl.out]
        exact owns_there ox (z * 64) 64 (by omega)
      have hnew := (owns_setCells ox (bv X) (z * 64) (by rw [bv_length, hdl.out]; omega)).1
      have hlnew : Later w2 (wx.setCells g (z * 64) (bv X)) := hlx.setCells hg (bv X) (z * 64)
      rw [← bv_over, ← happ.out] at hnew
      refine wpL_store rfl (by kernel_rfl) 27 (.tmp 31) (.tmp 30) rfl g (z * 64) (bv X) rfl rfl ht (by rw [Try.info_block, bv_length, hdl.out]) (bv_one X) (wpL_nil ?_)
      have NL := hide hlnew
      have NO := hide hnew
      clear hnew hlnew ht hlx ox hwx g1 g2 hat hrd hdl happ hlenA d0 d1
      generalize wx.setCells g (z * 64) (bv X) = wz at *
      go_wp2
      go_roundw
      case rel => exact ⟨q + 1, by omega, by go_num, NL, NO⟩
      case measure => simp [intOf]; omega
    · have hkq : q = k := by omega
      go_wp2
      go_ret
      refine ⟨_, rfl, L2.out.trans hl.out, ?_⟩
      have := ho.out
      rw [hkq, HK.out, List.take_length] at this
      simp only [allN, allF, hR, if_true]
      exact this.mono L2.out.size
end Go.Proofs.Ytphgjofiploahaa
