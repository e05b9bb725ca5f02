import Derived.Deep.Onto
import Derived.Deep.Slices
import Derived.Test.YtmelkgmbiiobgaaMAE
import Derived.Test.YtmelkgmbiiobgaaMAF
import Derived.Test.YtmelkgmbiiobgaaMAD
import Derived.Test.YtmelkgmbiiobgaaMAB
namespace Go.Proofs.Ytmelkgmbiiobgaa
open Go.ChangeShapes Go.WideShapes Go.ChangeAt Go.RowKit
set_option linter.unusedVariables false
set_option maxRecDepth 4000
set_option linter.unusedSimpArgs false
/-! Calls in regions that draw their order; rows that lie in another block than one's own. -/
theorem wpT_call {P : Program} {ops : Array Oper} {Q : Exit → Act → World → Prop} {τ σ : List Nat} {i : Nat} {o : Oper} {μ : List Nat} {a : Act} {b : World} (ho : ops[i]? = some o) (hw : Region.wanted o (yielded ops a.tmps) = true) (f : FuncId) (hp : Plain P f) (xs : List Operand) (ts : Array TypeId) (hop : o.op = .call { callee := .value (.func f), args := xs.toArray, argTypes := ts }) (us : List Value) (hx : xs.map a.eval = us)
    (v : Value) (hc : ∀ w, Later b w → Calls P f us.toArray w fun e w' => e = .returned v ∧ Later w w')
    (h : wpT P ops Q τ σ μ (a.put o.dst v) b) : wpT P ops Q τ σ (i :: μ) a b := by
  refine ⟨o, ho, ?_⟩
  rw [if_pos hw]
  refine ⟨v, fun w hl => ?_, h⟩
  rw [run_call f hp xs ts hop us hx]
  exact ⟨rfl, hc w hl⟩
/-- a bag of one -/
theorem wpT_one {P : Program} {ops : Array Oper} {Q : Exit → Act → World → Prop} {τ : List Nat} {i : Nat} {a : Act} {b : World} (R : Value → World → Prop) (hd : dep .any ops i i = false) (hst : ∀ v w w', Later w w' → R v w → R v w') (hv : ∀ w, Later b w → lVal P ops i R a w)
    (h : ∀ v w, Later b w → R v w → wpL P ops Q τ (a.put (dstOf ops i) v) w) : wpT P ops Q τ [i] [] a b := by
  refine wpT_bag (fun _ => []) (fun _ vals w => R (vals i) w) (by simp [hd]) (fun _ _ vals w w' hl h => hst _ _ _ hl h) ?_ ?_ ?_
  · intro j hj k hk hne
    simp at hj hk
    exact absurd (hk.trans hj.symm) hne
  · intro j hj vals w hw _
    have : j = i := by simpa using hj
    subst this
    refine lVal_mono (fun v w' _ h => ?_) (hv w hw)
    rw [upd_same]; exact h
  · intro vals w hw hall
    exact h (vals i) w hw (hall i (by simp))
/-! Rows that lie in another block than one's own. -/
def OffS (g : Nat) : Value → Prop
  | .slice (some a) n _ => n = 0 ∨ a.block ≠ g
  | _ => True
theorem sVal_store {P : Program} {ops : Array Oper} {i : Nat} {o : Oper} {R : Value → World → Prop} {a : Act} {w : World} (ho : ops[i]? = some o) (hgd : o.guard = none) (ty : TypeId) (x y : Operand) (hop : o.op = .store ty x y) (g : Nat) (cells : List Value) (hx : a.eval x = .pointer (some ⟨g, 0, none⟩)) (hy : a.eval y = .agg cells.toArray)
    (ht : w.there g 0 cells.length) (hi : (P.info? ty).map (·.size) = some cells.length) (h1 : ∀ v ∈ cells, v.oneCell' = true) (h : ∀ u, R u (w.setCells g 0 cells)) : sVal P ops i R a w := by
  unfold sVal
  simp only [ho]
  rw [if_pos (by simp [Region.wanted, hgd])]
  have hrun := run_storeAt_mid (P := P) w g 0 ty cells.toArray (by simpa using ht) (by simpa using hi) (all_oneCell_toArray h1)
  simp [execOp, hop, hx, hy, hrun, Result.andThen, sUpon]
  exact h _
theorem range_tail {w : World} {b o : Nat} {x : Value} {xs : List Value} (h : w.rangeAt b o (x :: xs)) : w.rangeAt b (o + 1) xs := fun j v hv => by
  have := h (j + 1) v (by simpa using hv)
  rwa [show o + (j + 1) = o + 1 + j from by omega] at this
theorem owns_head {w : World} {B : Nat} {e : TypeId} {sz : Nat} {v : Value} {n : Nat} {xs : List Value} (h : w.ownsRow B e sz v n xs) (hn : 0 < n) : ∃ g cap, v = .slice (some ⟨g, 0, none⟩) n cap ∧ B ≤ g := by
  rcases h.2 with ⟨_, h0⟩ | ⟨g, cap, cur, rfl, hb, _⟩
  · omega
  · exact ⟨g, cap, rfl, hb⟩
theorem wpT_loadG {P : Program} {ops : Array Oper} {Q : Exit → Act → World → Prop} {τ : List Nat} {i : Nat} {o : Oper} {σ μ : List Nat} {a : Act} {b : World} (ho : ops[i]? = some o) (hw : Region.wanted o (yielded ops a.tmps) = true) (ty : TypeId) (x : Operand) (hop : o.op = .load ty x)
    (k off : Nat) (hx : a.eval x = .pointer (some ⟨k, off, none⟩)) (cs : List Value) (d : TypeDesc) (hc : b.rangeAt k off cs) (hu : P.underlying ty = some d) (hd : d.isRow = true) (hi : (P.info? ty).map (·.size) = some cs.length)
    (h : wpT P ops Q τ σ μ (a.put o.dst (.agg cs.toArray)) b) : wpT P ops Q τ σ (i :: μ) a b := by
  refine ⟨o, ho, ?_⟩
  rw [if_pos hw]
  refine ⟨.agg cs.toArray, fun w hl => ?_, h⟩
  unfold execOp
  simp only [hop, hx, Instr.loadAt, Instr.sureAddr, Sem.run_bind, Sem.run_pure, Result.andThen_ok, run_loadVar_mid w k off ty cs d (hl.range hc) hu hd hi]
  simp [Oper.mildUpon]
theorem wpL_store {P : Program} {ops : Array Oper} {Q : Exit → Act → World → Prop} {τ : List Nat} {i : Nat} {o : Oper} {a : Act} {w : World} (ho : ops[i]? = some o) (hw : Region.wanted o (yielded ops a.tmps) = true) (ty : TypeId) (x y : Operand) (hop : o.op = .store ty x y)
    (b off : Nat) (cs : List Value) (hx : a.eval x = .pointer (some ⟨b, off, none⟩)) (hy : a.eval y = .agg cs.toArray) (ht : w.there b off cs.length) (hi : (P.info? ty).map (·.size) = some cs.length) (h1 : ∀ u ∈ cs, u.oneCell' = true)
    (h : wpL P ops Q τ (a.put o.dst undef) (w.setCells b off cs)) : wpL P ops Q (i :: τ) a w := by
  refine wpL_cons ho (fun K hK => ?_)
  rw [if_pos hw]
  exact wp_store_mid ty x y hop b off cs.toArray hx hy (by simpa using ht) (by simpa using hi) (all_oneCell_toArray h1) (hK _ _ h)
theorem owns_later {w w' : World} {B : Nat} {e : TypeId} {sz : Nat} {v : Value} {n : Nat} {xs : List Value} (h : w.ownsRow B e sz v n xs) (hl : Later w w') : w'.ownsRow B e sz v n xs :=
  owns_kept h fun g hg => hl.block g (h.lt g hg).2
/-- two results, the first one in a variable of its own -/
theorem results_cell_tmp {fn : Func} {p q : Tmp} {ty : TypeId} (h : fn.results = #[.cell p ty, .tmp q]) (tmps : Array Value) (P : Program) (w : World) (b o : Nat) (hp : tmps.getD p undef = .pointer (some ⟨b, o, none⟩)) (v u : Value) (hl : (loadVar ty ⟨b, o, none⟩).run P w = .ok v w) (hq : tmps.getD q undef = u) :
    (results fn tmps).run P w = .ok (.tuple #[v, u]) w := by
  have ha : (asAddr (tmps.getD p undef)).run P w = .ok ⟨b, o, none⟩ w := by rw [hp]; rfl
  simp only [results, h]
  simp only [List.mapM_toArray, Sem.run_bind]
  simp [ha, hl, hq, -Array.getD_eq_getD_getElem?]
theorem Box.all {w : World} {g : Nat} {t : TypeId} {xs : List Value} (h : Box w g t xs) (vs : List Value) (hl : vs.length = xs.length) : Box (w.setCells g 0 vs) g t vs := by
  have := h.setCells vs 0 (by omega)
  rw [List.take_zero, List.nil_append, List.drop_of_length_le (by omega), List.append_nil] at this
  exact this
theorem box_ne_own {w : World} {b : Nat} {t : TypeId} {xs : List Value} {B : Nat} {e : TypeId} {sz : Nat} {v : Value} {n : Nat} {ys : List Value} (hB : Box w b t xs) (ho : w.ownsRow B e sz v n ys) (hne : t ≠ e) (g : Nat) (hg : v.ownBlock = some g) : b ≠ g := by
  intro he
  subst he
  rcases ho.2 with ⟨rfl, _⟩ | ⟨g', cap, cur, rfl, _, hg', _⟩
  · simp [Value.ownBlock] at hg
  · simp [Value.ownBlock] at hg
    subst hg
    unfold Box at hB
    rw [hg'] at hB
    simp at hB
    exact hne hB.2.symm
theorem Box.kept {w w' : World} {g : Nat} {t : TypeId} {xs : List Value} (h : Box w g t xs) (hk : w'.heap[g]? = w.heap[g]?) : Box w' g t xs := by unfold Box; rw [hk]; exact h
theorem own_ne_own {w : World} {B B' : Nat} {e e' : TypeId} {sz sz' : Nat} {v v' : Value} {n n' : Nat} {xs ys : List Value} (h : w.ownsRow B e sz v n xs) (h' : w.ownsRow B' e' sz' v' n' ys) (hne : e ≠ e') (g : Nat) (hg : v.ownBlock = some g) : v'.ownBlock ≠ some g := by
  intro hg'
  rcases h.2 with ⟨rfl, _⟩ | ⟨g1, cap, cur, rfl, _, hc, _⟩
  · simp [Value.ownBlock] at hg
  · simp [Value.ownBlock] at hg
    subst hg
    rcases h'.2 with ⟨rfl, _⟩ | ⟨g2, cap', cur', rfl, _, hc', _⟩
    · simp [Value.ownBlock] at hg'
    · simp [Value.ownBlock] at hg'
      subst hg'
      rw [hc] at hc'
      simp at hc'
      exact hne hc'.2
theorem heap_setCells_other (w : World) (g k : Nat) (hk : k ≠ g) : ∀ (vs : List Value) (o : Nat), (w.setCells g o vs).heap[k]? = w.heap[k]? := by
  intro vs
  induction vs generalizing w with
  | nil => intro o; rfl
  | cons v vs ih => intro o; rw [World.setCells, ih]; exact heap_setCell_other w ⟨g, o, none⟩ k v hk
theorem owns_off {w : World} {B : Nat} {e : TypeId} {sz : Nat} {v : Value} {n : Nat} {xs : List Value} (h : w.ownsRow B e sz v n xs) {g : Nat} (hg : g < B) : OffS g v := by
  rcases h.2 with ⟨rfl, _⟩ | ⟨g', cap, cur, rfl, hb, _⟩
  · trivial
  · exact .inr (by simp; omega)
def OffM (g : Nat) (v : Value) : Prop := ∃ vb vd, v = .agg #[vb, vd] ∧ OffS g vb ∧ OffS g vd
end Go.Proofs.Ytmelkgmbiiobgaa

namespace Go.Proofs.Ytmelkgmbiiobgaa
open Go.ChangeShapes Go.WideShapes Go.ChangeAt Go.RowKit
set_option linter.unusedVariables false
set_option maxRecDepth 4000
set_option linter.unusedSimpArgs false
/-- the cached writes laid over the blocks, one behind the other -/
def app (F : List UInt8) (D : List Drt) : List UInt8 := D.foldl (fun F d => over F (d.1.toNat * 64) d.2) F
theorem app_snoc (F : List UInt8) (D : List Drt) (d : Drt) : app F (D ++ [d]) = over (app F D) (d.1.toNat * 64) d.2 := by simp [app]
def Fit (n : Nat) (D : List Drt) : Prop := ∀ d ∈ D, d.2.length = 64 ∧ 0 ≤ d.1 ∧ d.1 < n
theorem app_length (n : Nat) : ∀ (D : List Drt) (F : List UInt8), F.length = n * 64 → Fit n D → (app F D).length = n * 64
  | [], F, hF, _ => by simpa [app] using hF
  | d :: D, F, hF, h => by
    have hd := h d (by simp)
    show (app (over F (d.1.toNat * 64) d.2) D).length = n * 64
    exact app_length n D _ (by rw [over_length _ _ _ (by rw [hF, hd.1]; omega), hF]) fun x hx => h x (by simp [hx])
theorem fit_of_right {n : Nat} {D : List Drt} (h : rightB n D = true) (ho : Ok D) : Fit n D := fun d hd => by
  simp only [rightB, decide_eq_true_eq] at h
  exact ⟨(ho d hd).1, (h.2.2 d hd).1, (h.2.2 d hd).2⟩
def allF (n : Nat) (F : List UInt8) (D : List Drt) : List UInt8 := if rightB n D then app F D else []
def allN (n : Nat) (D : List Drt) : Nat := if rightB n D then n else 0
set_option maxHeartbeats 1000000 in
theorem rall_c {v : Value} {n : Nat} {F : List UInt8} {D : List Drt} (w : World) (h : Med w v n F D) :
    Calls Try.prog 11 #[v] w fun e w' => ∃ v', e = .returned v' ∧ Later w w' ∧ w'.ownsRow w.heap.size 50 64 v' (allN n D) (bv (allF n F D)) := by
  have HM := hide h
  obtain ⟨vb, vd, rfl, hb, hd, hok⟩ := h
  obtain ⟨ab, cb, rfl⟩ := hb.shape
  obtain ⟨k, hk⟩ : ∃ k, k = D.length := ⟨_, rfl⟩
  rw [← hk] at hd
  obtain ⟨aD, cD, rfl⟩ := hd.shape
  have hkm := hd.2.1
  unfold maxLen at hkm
  have HB := hide hb
  have HD := hide hd
  have HK := hide hk
  have HO := hide hok
  clear hb hd hk hok
  have BX0 := hide (Box.new w 25 #[.slice ab n cb, .slice aD k cD])
  have L0 := hide ((Later.refl w).alloc (.cells #[.slice ab n cb, .slice aD k cD] 25))
  go_enter Try.func11, Try.ntmps11
  go_wp2_with fail
  generalize (w.alloc (.cells #[.slice ab n cb, .slice aD k cD] 25)) = w1 at *
  refine (rright_c w1 (HM.out.later L0.out)).mono ?_
  rintro e w2 ⟨rfl, hl2⟩
  have L2 := hide (L0.out.trans hl2)
  have BX := hide (Box.later BX0.out hl2)
  clear hl2 L0 BX0
  have d0 := BX.out.cell 0
  have d1 := BX.out.cell 1
  by_cases hR : rightB n D = true
  case neg =>
    have hR' : rightB n D = false := by simpa using hR
    rw [hR']
    go_wp2
    go_ret
    refine ⟨_, rfl, L2.out, ?_⟩
    simp only [allN, allF, hR']
    exact World.ownsRow_nil _ _ _ _
  rw [hR]
  have hfit := hide (fit_of_right hR HO.out)
  have hn64 : n ≤ 64 := by simp only [rightB, decide_eq_true_eq] at hR; exact hR.1
  go_wp2_with fail
  refine (rcopy_c w2 w2.heap.size (Nat.le_refl _) (HB.out.later L2.out) (by omega)).mono ?_
  rintro e w3 ⟨v3, rfl, hl3, ho3⟩
  have L3 := hide hl3
  have O3 := hide ho3
  clear hl3 ho3 d0 d1
  have d0 := (Box.later BX.out L3.out).cell 0
  have d1 := (Box.later BX.out L3.out).cell 1
  go_wp2_with fail
  go_loopw [4] (fun i wr => ∃ q : Nat, q ≤ k ∧ i = .int .i64 q ∧ Hid (Later w2 wr) ∧ Hid (wr.ownsRow w2.heap.size 50 64 v3 n (bv (app F (D.take q))))) (fun i _ => k - (intOf i).toNat)
  case atStart => exact ⟨0, Nat.zero_le _, rfl, L3, by simpa [app] using O3⟩
  case round =>
    clear d0 d1
    obtain ⟨q, hq, rfl, hl, ho⟩ := hrel
    have d0 := (Box.later BX.out hl.out).cell 0
    have d1 := (Box.later BX.out hl.out).cell 1
    by_cases hlt : q < k
    · have hqD : q < D.length := by have := HK.out; omega
      have hdq := hfit.out D[q] (List.getElem_mem hqD)
      obtain ⟨z, hz⟩ := Int.eq_ofNat_of_zero_le hdq.2.1
      have hzn : z < n := by have := hdq.2.2; omega
      obtain ⟨bD, oD, e, hr⟩ := (HD.out.later (L2.out.trans hl.out)).lies? (by omega)
      subst e
      have hra := range_part hr (q * 65) 65
      rw [dv_part D q hqD HO.out] at hra
      have hat := hr _ _ (dv_at D q hqD HO.out)
      rw [hz] at hat
      have hrd := hide (range_tail hra)
      have hdl := hide hdq.1
      obtain ⟨g, capg, e, hg⟩ := owns_head ho.out (by omega)
      subst e
      have happ : Hid (app F (D.take (q + 1)) = over (app F (D.take q)) (z * 64) D[q].2) := by
        unfold Hid
        rw [List.take_succ_eq_append_getElem hqD, app_snoc, hz]
        rfl
      have hlenA : Hid ((app F (D.take q)).length = n * 64) := by
        refine app_length n _ F ?_ fun x hx => hfit.out x (List.mem_of_mem_take hx)
        have := HB.out.1
        rwa [bv_length] at this
      generalize D[q].2 = X at *
      clear hra hr hdq hz
      have g1 := fun r => (Box.later BX.out (hl.out.trans ((Later.refl wr).drew.trans (later_rg wr.drew r)))).cell 1
      have g2 := fun r => ((Later.refl wr).drew.trans (later_rg wr.drew r)).cellOf hat
      go_wp2_with fail
      refine wp_region_tree [0, 1, 2, 3, 4, 5, 6, 7, 8, 9, 10, 11, 12, 13] [] [14] (by kernel_rfl) (by kernel_rfl) (by kernel_rfl) (by kernel_rfl) ?_
      iterate 12 (refine wpT_mild rfl (fun K hK => ?_); go_simp; refine hK _ ?_; clear hK K)
      refine wpT_loadG rfl (by kernel_rfl) 50 (.tmp 29) rfl bD (oD + q * 65 + 1) rfl (bv X) _ ((World.rangeAt_drew _ _ _ _).2 hrd.out) Try.underlying50 rfl (by rw [Try.info_block, bv_length, hdl.out]) ?_
      iterate 1 (refine wpT_mild rfl (fun K hK => ?_); go_simp; refine hK _ ?_; clear hK K)
      refine wpT_done (fun wx hwx => ?_)
      have ox := owns_later ho.out ((Later.refl wr).drew.trans hwx)
      have hlx : Later w2 wx := hl.out.drew.trans hwx
      have ht : wx.there g (z * 64) (bv X).length := by
        rw [bv_length, hdl.out]
        exact owns_there ox (z * 64) 64 (by omega)
      have hnew := (owns_setCells ox (bv X) (z * 64) (by rw [bv_length, hdl.out]; omega)).1
      have hlnew : Later w2 (wx.setCells g (z * 64) (bv X)) := hlx.setCells hg (bv X) (z * 64)
      rw [← bv_over, ← happ.out] at hnew
      refine wpL_store rfl (by kernel_rfl) 50 (.tmp 31) (.tmp 30) rfl g (z * 64) (bv X) rfl rfl ht (by rw [Try.info_block, bv_length, hdl.out]) (bv_one X) (wpL_nil ?_)
      have NL := hide hlnew
      have NO := hide hnew
      clear hnew hlnew ht hlx ox hwx g1 g2 hat hrd hdl happ hlenA d0 d1
      generalize wx.setCells g (z * 64) (bv X) = wz at *
      go_wp2
      go_roundw
      case rel => exact ⟨q + 1, by omega, by go_num, NL, NO⟩
      case measure => simp [intOf]; omega
    · have hkq : q = k := by omega
      go_wp2
      go_ret
      refine ⟨_, rfl, L2.out.trans hl.out, ?_⟩
      have := ho.out
      rw [hkq, HK.out, List.take_length] at this
      simp only [allN, allF, hR, if_true]
      exact this.mono L2.out.size
end Go.Proofs.Ytmelkgmbiiobgaa

namespace Go.Proofs.Ytmelkgmbiiobgaa
open Go.ChangeShapes Go.WideShapes Go.ChangeAt Go.RowKit
set_option linter.unusedVariables false
set_option maxRecDepth 4000
set_option linter.unusedSimpArgs false
end Go.Proofs.Ytmelkgmbiiobgaa

namespace Go.Proofs.Ytmelkgmbiiobgaa
open Go.ChangeShapes Go.WideShapes Go.ChangeAt Go.RowKit
set_option linter.unusedVariables false
set_option maxRecDepth 4000
set_option linter.unusedSimpArgs false
def inR (f t : Int) (d : Drt) : Bool := decide (f ≤ d.1 ∧ d.1 < t)
end Go.Proofs.Ytmelkgmbiiobgaa

namespace Go.Proofs.Ytmelkgmbiiobgaa
open Go.ChangeShapes Go.WideShapes Go.ChangeAt Go.RowKit
set_option linter.unusedVariables false
set_option maxRecDepth 4000
set_option linter.unusedSimpArgs false
def flushOk (n : Nat) (at_ m : Int) : Bool := decide (0 ≤ at_ ∧ 0 ≤ m ∧ at_ ≤ n)
def flushTo (n : Nat) (at_ m : Int) : Int := if m = 0 ∨ (n : Int) - at_ < m then n else at_ + m
def flushE (n : Nat) (D : List Drt) (at_ m : Int) : Int := if rightB n D then (if flushOk n at_ m then 0 else 5) else 1
def flushF (n : Nat) (F : List UInt8) (D : List Drt) (at_ m : Int) : List UInt8 := if flushE n D at_ m = 0 then app F (D.filter (inR at_ (flushTo n at_ m))) else []
def flushD (n : Nat) (D : List Drt) (at_ m : Int) : List Drt := if flushE n D at_ m = 0 then D.filter (fun d => !inR at_ (flushTo n at_ m) d) else []
def flushN (n : Nat) (D : List Drt) (at_ m : Int) : Nat := if flushE n D at_ m = 0 then n else 0
theorem Med.nil (w : World) : Med w (.agg #[.slice none 0 0, .slice none 0 0]) 0 [] [] := ⟨_, _, rfl, Rw.nil 64 w, Rw.nil 65 w, fun d hd => by cases hd⟩
theorem Ok.filter {D : List Drt} (h : Ok D) (p : Drt → Bool) : Ok (D.filter p) := fun d hd => h d (List.mem_filter.1 hd).1
end Go.Proofs.Ytmelkgmbiiobgaa

namespace Go.Proofs.Ytmelkgmbiiobgaa
open Go.ChangeShapes Go.WideShapes Go.ChangeAt Go.RowKit
set_option linter.unusedVariables false
set_option maxRecDepth 4000
set_option linter.unusedSimpArgs false
end Go.Proofs.Ytmelkgmbiiobgaa

namespace Go.Proofs.Ytmelkgmbiiobgaa
open Go.ChangeShapes Go.WideShapes Go.ChangeAt Go.RowKit
set_option linter.unusedVariables false
set_option maxRecDepth 4000
set_option linter.unusedSimpArgs false
end Go.Proofs.Ytmelkgmbiiobgaa

namespace Go.Proofs.Ytmelkgmbiiobgaa
open Go.ChangeShapes Go.WideShapes Go.ChangeAt Go.RowKit
set_option linter.unusedVariables false
set_option maxRecDepth 4000
set_option linter.unusedSimpArgs false
end Go.Proofs.Ytmelkgmbiiobgaa

namespace Go.Proofs.Ytmelkgmbiiobgaa
open Go.ChangeShapes Go.WideShapes Go.ChangeAt Go.RowKit
set_option linter.unusedVariables false
set_option maxRecDepth 20000
set_option linter.unusedSimpArgs false
section
variable {H : Type} {enc : TypeId × Value → H} {P : Program} {w : World} {r : Reach} {base : Nat} {t : TypeId} {v : Value} {d : DataW H} {p : List MemPlace}
theorem flatten_len {sz : Nat} (f : Nat → List Value) (hf : ∀ i, (f i).length = sz) : ∀ n : Nat, (((List.range n).map f).flatten).length = n * sz := by
  intro n
  induction n with
  | zero => simp
  | succ n ih => rw [List.range_succ, List.map_append, List.flatten_append, List.length_append, ih]; simp [hf, Nat.add_mul]
theorem flatten_get {sz : Nat} (f : Nat → List Value) (hf : ∀ i, (f i).length = sz) (hsz : 0 < sz) : ∀ (n j : Nat), j < n * sz → (((List.range n).map f).flatten)[j]? = (f (j / sz))[j % sz]? := by
  intro n
  induction n with
  | zero => intro j hj; simp at hj
  | succ n ih =>
    intro j hj
    rw [List.range_succ, List.map_append, List.flatten_append]
    have hl := flatten_len f hf n
    by_cases h : j < n * sz
    · rw [List.getElem?_append_left (by omega)]; exact ih j h
    · rw [List.getElem?_append_right (by omega), hl]
      have h1 : j < n * sz + sz := by rw [Nat.add_mul] at hj; omega
      have e1 : j / sz = n := by
        apply Nat.div_eq_of_lt_le
        · omega
        · rw [Nat.add_mul]; omega
      have e2 : j % sz = j - n * sz := by rw [Nat.mod_eq_sub_mul_div, e1, Nat.mul_comm]
      simp [e1, e2]
/-- An array of bytes, as cells. -/
theorem shape_bytes {n : Nat} {e : TypeId} (ht : P.underlying t = some (.array n e)) (he : P.underlying e = some (.int .u8)) (hc : P.cellsOf e = 1) (hct : P.cellsOf t = n) (fuel : Nat) (cs : List Value) (x : DataW H × List MemPlace)
    (h : DataW.trod enc P w 0 (fun _ => true) true fuel t cs = some x) : ∃ X : List UInt8, X.length = n ∧ cs = bv X := by
  obtain ⟨xs, m, _, _, hl, hxs, hall⟩ := DataW.trod_array ht h
  rw [hct] at hl
  have hget : ∀ i, i < n → ∃ b : UInt8, cs[i]? = some (.int .u8 (b.toNat : Int)) := by
    intro i hi
    have h1 := hall i hi
    rw [hc, Nat.mul_one] at h1
    have h2 : (List.drop i cs).take 1 = [cs[i]'(by omega)] := by
      rw [List.drop_eq_getElem_cons (by omega), List.take_succ_cons, List.take_zero]
    rw [h2, List.getElem?_eq_getElem (by omega)] at h1
    obtain ⟨z, e0, _, wz⟩ := DataW.trod_int he h1
    simp at e0
    have hb := bounds_u8 wz
    obtain ⟨y, rfl⟩ := Int.eq_ofNat_of_zero_le hb.1
    refine ⟨UInt8.ofNat y, ?_⟩
    rw [List.getElem?_eq_getElem (by omega), e0, UInt8.toNat_ofNat']
    congr 3
    omega
  have hch : ∀ i, ∃ b : UInt8, i < n → cs[i]? = some (.int .u8 (b.toNat : Int)) := fun i => by
    by_cases hi : i < n
    · obtain ⟨b, hb⟩ := hget i hi; exact ⟨b, fun _ => hb⟩
    · exact ⟨0, fun h => absurd h hi⟩
  obtain ⟨f, hf⟩ := Classical.axiomOfChoice hch
  refine ⟨(List.range n).map f, by simp, ?_⟩
  apply List.ext_getElem?
  intro i
  by_cases hi : i < n
  · rw [hf i hi]; simp [bv, hi]
  · rw [List.getElem?_eq_none (by omega), List.getElem?_eq_none (by simp [bv]; omega)]
end
theorem bv_flatten : ∀ css : List (List Value), (∀ cs ∈ css, ∃ X : List UInt8, X.length = 64 ∧ cs = bv X) → ∃ F : List UInt8, css.flatten = bv F
  | [], _ => ⟨[], rfl⟩
  | c :: css, h => by
    obtain ⟨X, _, rfl⟩ := h c (by simp)
    obtain ⟨F, hF⟩ := bv_flatten css (fun cs hcs => h cs (by simp [hcs]))
    exact ⟨X ++ F, by rw [List.flatten_cons, hF, bv_append]⟩
end Go.Proofs.Ytmelkgmbiiobgaa

namespace Go.Proofs.Ytmelkgmbiiobgaa
open Go.ChangeShapes Go.WideShapes Go.ChangeAt Go.RowKit
set_option linter.unusedVariables false
set_option maxRecDepth 20000
set_option linter.unusedSimpArgs false
/-! Structs that come in, whatever is in them. -/
section
variable {H : Type} {enc : TypeId × Value → H} {P : Program} {w : World} {t : TypeId}
/-- A slice of whatever elements, as cells. -/
theorem shape_rows {e : TypeId} {sz : Nat} (ht : P.underlying t = some (.slice e)) (hce : P.cellsOf e = sz) (hsz : 0 < sz) (S : List Value → Prop)
    (hS : ∀ fuel cs x, DataW.trod enc P w 0 (fun _ => true) true fuel e cs = some x → S cs) (fuel : Nat) (cs : List Value) (x : DataW H × List MemPlace) (hf : DataW.trod enc P w 0 (fun _ => true) true fuel t cs = some x) :
    ∃ (v : Value) (css : List (List Value)), cs = [v] ∧ (∀ c ∈ css, S c ∧ c.length = sz) ∧ Rw sz w v css.length css.flatten := by
  rcases Deep.open_slice ht hf with ⟨rfl, _⟩ | ⟨x, len, cap, m, n, D, Pl, rfl, _, hl, hm, hmm, _, hel⟩
  · exact ⟨_, [], rfl, by simp, Rw.nil _ _⟩
  · by_cases h0 : len = 0
    · subst h0
      exact ⟨_, [], rfl, by simp, by simp, by simp, some x, cap, rfl, by omega, .inl rfl⟩
    · have hmc : m = cap := by simpa using hmm
      subst hmc
      have hspot : x.spot = none := by
        obtain ⟨cs, h1, h2⟩ := hel 0 (by omega)
        rw [hce] at h1
        have hc := World.cells?_some h1
        have h3 := hc.2.2 0 hsz
        rw [List.getElem?_eq_getElem (by rw [hc.2.1]; exact hsz)] at h3
        have h4 := World.cell?_spot h3
        clear h3 hc h1 h2 hel hf
        obtain ⟨b, off, spot⟩ := x
        cases spot with
        | none => rfl
        | some q => simp [Addr.add] at h4
      obtain ⟨b, off, spot⟩ := x
      simp at hspot
      subst hspot
      have hch : ∀ i, ∃ cs : List Value, cs.length = sz ∧ (i < len → S cs ∧ ∀ j, j < sz → w.cell? ⟨b, off + (i * sz + j), none⟩ = cs[j]?) := by
        intro i
        by_cases hi : i < len
        · obtain ⟨cs, h1, h2⟩ := hel i (by omega)
          rw [hce] at h1
          have hc := World.cells?_some h1
          refine ⟨cs, hc.2.1, fun _ => ⟨hS _ _ _ h2, fun j hj => ?_⟩⟩
          rw [← hc.2.2 j hj, Addr.add_mid, Addr.add_mid, Nat.add_assoc]
        · exact ⟨List.replicate sz undef, by simp, fun h => absurd h hi⟩
      obtain ⟨f, hf'⟩ := Classical.axiomOfChoice hch
      have hfl := flatten_len f (fun i => (hf' i).1) len
      refine ⟨_, (List.range len).map f, rfl, ?_, ?_⟩
      · intro cs hcs
        obtain ⟨i, hi, rfl⟩ := List.mem_map.1 hcs
        exact ⟨((hf' i).2 (by simpa using hi)).1, (hf' i).1⟩
      · rw [show ((List.range len).map f).length = len from by simp]
        refine ⟨hfl, by omega, some ⟨b, off, none⟩, m, rfl, hl, .inr ⟨b, off, rfl, fun j u hu => ?_⟩⟩
        have hj : j < len * sz := by have := (List.getElem?_eq_some_iff.1 hu).1; omega
        rw [flatten_get f (fun i => (hf' i).1) hsz len j hj] at hu
        have hd : j / sz < len := Nat.div_lt_of_lt_mul (by rw [Nat.mul_comm]; exact hj)
        have := ((hf' (j / sz)).2 hd).2 (j % sz) (Nat.mod_lt _ hsz)
        rw [← hu, ← this]
        congr 3
        have := Nat.div_add_mod j sz
        rw [Nat.mul_comm] at this
        omega
/-- A field of a struct, as cells. -/
theorem shape_field {fs : Array Field} {L : List (TypeId × Nat)} (ht : P.underlying t = some (.struct fs)) (hL : fs.toList.map (fun f => (f.type, f.offset)) = L) (i : Nat) (ty : TypeId) (off : Nat) (hi : L[i]? = some (ty, off))
    {fuel : Nat} {cs : List Value} {x : DataW H × List MemPlace} (h : DataW.trod enc P w 0 (fun _ => true) true fuel t cs = some x) : cs.length = P.cellsOf t ∧ ∃ m y, DataW.trod enc P w 0 (fun _ => true) true m ty ((cs.drop off).take (P.cellsOf ty)) = some y := by
  obtain ⟨xs, n, _, _, hl, hxs, hall⟩ := DataW.trod_struct ht h
  rw [← hL, List.getElem?_map, Option.map_eq_some_iff] at hi
  obtain ⟨f, hf, he⟩ := hi
  simp only [Prod.mk.injEq] at he
  obtain ⟨rfl, rfl⟩ := he
  have hlt : i < fs.size := by have := (List.getElem?_eq_some_iff.1 hf).1; simpa using this
  have := hall i f (by simpa using hf)
  rw [List.getElem?_eq_getElem (by omega)] at this
  exact ⟨hl, n, _, this⟩
theorem shape_int {k : IntKind} (ht : P.underlying t = some (.int k)) {fuel : Nat} {cs : List Value} {x : DataW H × List MemPlace} (h : DataW.trod enc P w 0 (fun _ => true) true fuel t cs = some x) : ∃ n : Int, cs = [.int k n] ∧ (Lit.int k n).wf = true := by
  obtain ⟨n, h1, _, h2⟩ := DataW.trod_int ht h
  exact ⟨n, h1, h2⟩
theorem shape_bool (ht : P.underlying t = some .bool) {fuel : Nat} {cs : List Value} {x : DataW H × List MemPlace} (h : DataW.trod enc P w 0 (fun _ => true) true fuel t cs = some x) : ∃ b : Bool, cs = [.bool b] := by
  obtain ⟨b, h1, _⟩ := DataW.trod_bool ht h
  exact ⟨b, h1⟩
end
theorem agg_of {cs : Array Value} {l : List Value} (h : cs.toList = l) : Value.agg cs = .agg l.toArray := by rw [← h]
theorem two_cells {cs : List Value} {a b : Value} (h : cs.length = 2) (h0 : (cs.drop 0).take 1 = [a]) (h1 : (cs.drop 1).take 1 = [b]) : cs = [a, b] := by
  match cs, h with
  | [x, y], _ => simp at h0 h1; rw [h0, h1]
section
variable {H : Type} {enc : TypeId × Value → H} {w : World} {r : Reach} {base : Nat} {v : Value} {d : DataW H} {p : List MemPlace}
theorem Try.is_medium : Try.prog.underlying 25 = some (.struct (Try.prog.fieldsOf 25)) := by kernel_rfl
theorem Try.fields_medium : (Try.prog.fieldsOf 25).toList.map (fun f => (f.type, f.offset)) = [(22, 0), (23, 1)] := by kernel_rfl
theorem Try.offs_dirty : (Try.prog.fieldsOf 53).toList.map (fun f => (f.type, f.offset)) = [(3, 0), (50, 1)] := by kernel_rfl
theorem shape_dirty (fuel : Nat) (cs : List Value) (x : DataW H × List MemPlace) (h : DataW.trod enc Try.prog w 0 (fun _ => true) true fuel 53 cs = some x) : ∃ D : Drt, (D.2.length = 64 ∧ -9223372036854775808 ≤ D.1 ∧ D.1 ≤ 9223372036854775807) ∧ cs = .int .i64 D.1 :: bv D.2 := by
  obtain ⟨hl, m0, y0, h0⟩ := shape_field Try.is_dirty Try.offs_dirty 0 _ _ rfl h
  obtain ⟨_, m1, y1, h1⟩ := shape_field Try.is_dirty Try.offs_dirty 1 _ _ rfl h
  rw [show Try.prog.cellsOf 53 = 65 from by kernel_rfl] at hl
  rw [show Try.prog.cellsOf 3 = 1 from by kernel_rfl] at h0
  rw [show Try.prog.cellsOf 50 = 64 from by kernel_rfl] at h1
  obtain ⟨n, hn, wn⟩ := shape_int Try.underlying3 h0
  obtain ⟨X, hX, hx⟩ := shape_bytes Try.underlying50 Try.underlying5 (by kernel_rfl) (by kernel_rfl) _ _ _ h1
  refine ⟨(n, X), ⟨hX, bounds_i64 wn⟩, ?_⟩
  have e2 : (cs.drop 1).take 64 = cs.drop 1 := List.take_of_length_le (by simp; omega)
  rw [e2] at hx
  match cs, hl with
  | c :: cs, _ =>
    simp at hn hx
    rw [hn, hx]
theorem dv_flatten : ∀ css : List (List Value), (∀ cs ∈ css, ∃ D : Drt, (D.2.length = 64 ∧ -9223372036854775808 ≤ D.1 ∧ D.1 ≤ 9223372036854775807) ∧ cs = .int .i64 D.1 :: bv D.2) → ∃ D : List Drt, D.length = css.length ∧ Ok D ∧ css.flatten = dv D
  | [], _ => ⟨[], rfl, (fun d hd => by cases hd), rfl⟩
  | c :: css, h => by
    obtain ⟨X, hX, rfl⟩ := h c (by simp)
    obtain ⟨D, h1, h2, h3⟩ := dv_flatten css (fun cs hcs => h cs (by simp [hcs]))
    refine ⟨X :: D, by simp [h1], fun d hd => ?_, by rw [List.flatten_cons, h3, dv_cons]⟩
    rcases List.mem_cons.1 hd with rfl | hd
    · exact hX
    · exact h2 d hd
/-- the cells of a medium -/
theorem shape_medium (fuel : Nat) (cs : List Value) (x : DataW H × List MemPlace) (h : DataW.trod enc Try.prog w 0 (fun _ => true) true fuel 25 cs = some x) : ∃ vb vd n F D, cs = [vb, vd] ∧ Rw 64 w vb n (bv F) ∧ Rw 65 w vd D.length (dv D) ∧ Ok D := by
  obtain ⟨hl, m0, y0, h0⟩ := shape_field Try.is_medium Try.fields_medium 0 _ _ rfl h
  obtain ⟨_, m1, y1, h1⟩ := shape_field Try.is_medium Try.fields_medium 1 _ _ rfl h
  rw [show Try.prog.cellsOf 25 = 2 from by kernel_rfl] at hl
  rw [show Try.prog.cellsOf 22 = 1 from by kernel_rfl] at h0
  rw [show Try.prog.cellsOf 23 = 1 from by kernel_rfl] at h1
  obtain ⟨vb, css, e0, k0, r0⟩ := shape_rows Try.underlying22 (sz := 64) (by kernel_rfl) (by decide) (fun cs => ∃ X : List UInt8, X.length = 64 ∧ cs = bv X) (fun fuel cs x hx => shape_bytes Try.underlying50 Try.underlying5 (by kernel_rfl) (by kernel_rfl) fuel cs x hx) _ _ _ h0
  obtain ⟨vd, dss, e1, k1, r1⟩ := shape_rows Try.underlying23 (sz := 65) (by kernel_rfl) (by decide) (fun cs => ∃ D : Drt, (D.2.length = 64 ∧ -9223372036854775808 ≤ D.1 ∧ D.1 ≤ 9223372036854775807) ∧ cs = .int .i64 D.1 :: bv D.2) (fun fuel cs x hx => shape_dirty fuel cs x hx) _ _ _ h1
  obtain ⟨F, hF⟩ := bv_flatten css (fun cs hcs => (k0 cs hcs).1)
  obtain ⟨D, hD, hok, hDf⟩ := dv_flatten dss (fun cs hcs => (k1 cs hcs).1)
  rw [hF] at r0
  rw [hDf, ← hD] at r1
  exact ⟨vb, vd, css.length, F, D, two_cells hl e0 e1, r0, r1, hok⟩
end
end Go.Proofs.Ytmelkgmbiiobgaa

namespace Go.Proofs.Ytmelkgmbiiobgaa
open Go.ChangeShapes Go.WideShapes Go.ChangeAt Go.RowKit
set_option linter.unusedVariables false
set_option maxRecDepth 4000
set_option linter.unusedSimpArgs false
/-! What the landed cache does, said; proved in P3. -/
def IAll : Prop := ∀ (v : Value) (n : Nat) (F : List UInt8) (D : List Drt) (w : World), Med w v n F D →
  Calls Try.prog 66 #[v] w fun e w' => ∃ v', e = .returned v' ∧ Later w w' ∧ Rw 64 w' v' (allN n D) (bv (allF n F D))
theorem Med.shape {w : World} {v : Value} {n : Nat} {F : List UInt8} {D : List Drt} (h : Med w v n F D) : ∃ a c a' k c', v = .agg #[.slice a n c, .slice a' k c'] ∧ Hid (k = D.length) ∧ n ≤ 9223372036854775807 ∧ k ≤ 9223372036854775807 := by
  obtain ⟨vb, vd, rfl, hb, hd, _⟩ := h
  obtain ⟨a, c, rfl⟩ := hb.shape
  obtain ⟨a', c', rfl⟩ := hd.shape
  have h1 := hb.2.1
  have h2 := hd.2.1
  unfold maxLen at h1 h2
  exact ⟨a, c, a', D.length, c', rfl, rfl, by omega, by omega⟩
theorem rall_b {v : Value} {n : Nat} {F : List UInt8} {D : List Drt} (w : World) (h : Med w v n F D) :
    Calls Try.prog 11 #[v] w fun e w' => ∃ v', e = .returned v' ∧ Later w w' ∧ Rw 64 w' v' (allN n D) (bv (allF n F D)) :=
  (rall_c w h).mono fun e w' ⟨v', he, hl, ho⟩ => ⟨v', he, hl, Rw.of_owns ho⟩
theorem Try.zero_medium : (Try.prog.info? 25).map (fun i => (i.zero, i.size)) = some (some (.agg #[.slice none 0 0, .slice none 0 0]), 2) := by kernel_rfl
theorem Try.guard_block : Try.prog.eqGuardType Try.prog.depth 50 = false := by kernel_rfl
theorem block_eq (X Y : List UInt8) (hX : X.length = 64) (hY : Y.length = 64) (w : World) : (Op.equalIn 10000 50 (.agg (bv X).toArray) (.agg (bv Y).toArray)).run Try.prog w = .ok (X == Y) w :=
  bytes_eq 50 5 64 Try.underlying50 Try.underlying5 (by kernel_rfl) X Y hX hY w
/-- 'x := v', v a medium -/
theorem wpList_newM {w : World} {ops : Array Oper} {rest : List Oper} {o1 o2 : Oper} {a : Act} {Q : Exit → Act → World → Prop} (hg1 : o1.guard = none) (hg2 : o2.guard = none) (h1 : o1.op = .alloc 25) (d : Tmp) (hd : o1.dst = some d) (hd' : d < a.tmps.size) (y : Operand) (hy' : y ≠ .tmp d) (h2 : o2.op = .store 25 (.tmp d) y)
    (x1 x2 : Option Addr) (n1 c1 n2 c2 : Nat) (hy : a.eval y = .agg #[.slice x1 n1 c1, .slice x2 n2 c2])
    (h : ∀ (g : Nat) (w' : World), Box w' g 25 [.slice x1 n1 c1, .slice x2 n2 c2] → Later w w' → Hid (g = w.heap.size ∧ w' = w.alloc (.cells #[.slice x1 n1 c1, .slice x2 n2 c2] 25)) → wpList Try.prog ops Q rest ((a.put (some d) (.pointer (some ⟨g, 0, none⟩))).put o2.dst undef) w') : wpList Try.prog ops Q (o1 :: o2 :: rest) a w :=
  wpList_new hg1 hg2 25 h1 d hd hd' y hy' h2 #[.slice none 0 0, .slice none 0 0] [.slice x1 n1 c1, .slice x2 n2 c2] Try.zero_medium rfl hy (by simp [Value.oneCell']) h
theorem Med.flat {w : World} {v : Value} {n : Nat} {F : List UInt8} {D : List Drt} (h : Med w v n F D) : F.length = n * 64 ∧ Ok D := by
  obtain ⟨vb, vd, rfl, hb, hd, ho⟩ := h
  have := hb.1
  rw [bv_length] at this
  exact ⟨this, ho⟩
end Go.Proofs.Ytmelkgmbiiobgaa
