import Derived.Deep.Onto
import Derived.Test.YtfakboehmcimpaaGreatMAE
import Derived.Test.YtfakboehmcimpaaGreatMAF
namespace Go.Proofs.YtfakboehmcimpaaGreat
open Go.ChangeShapes Go.WideShapes Go.ChangeAt Go.RowKit
set_option linter.unusedVariables false
set_option maxRecDepth 4000
set_option linter.unusedSimpArgs false
/-! Calls in regions that draw their order; rows that lie in another block than one's own. -/
theorem wpT_call {P : Program} {ops : Array Oper} {Q : Exit → Act → World → Prop} {τ σ : List Nat} {i : Nat} {o : Oper} {μ : List Nat} {a : Act} {b : World} (ho : ops[i]? = some o) (hw : Region.wanted o (yielded ops a.tmps) = true) (f : FuncId) (hp : Plain P f) (xs : List Operand) (ts : Array TypeId) (hop : o.op = .call { callee := .value (.func f), args := xs.toArray, argTypes := ts }) (us : List Value) (hx : xs.map a.eval = us)
    (v : Value) (hc : ∀ w, Later b w → Calls P f us.toArray w fun e w' => e = .returned v ∧ Later w w')
    (h : wpT P ops Q τ σ μ (a.put o.dst v) b) : wpT P ops Q τ σ (i :: μ) a b := by
  refine ⟨o, ho, ?_⟩
  rw [if_pos hw]
  refine ⟨v, fun w hl => ?_, h⟩
  rw [run_call f hp xs ts hop us hx]
  exact ⟨rfl, hc w hl⟩
/-- a bag of one -/
theorem wpT_one {P : Program} {ops : Array Oper} {Q : Exit → Act → World → Prop} {τ : List Nat} {i : Nat} {a : Act} {b : World} (R : Value → World → Prop) (hd : dep .any ops i i = false) (hst : ∀ v w w', Later w w' → R v w → R v w') (hv : ∀ w, Later b w → lVal P ops i R a w)
    (h : ∀ v w, Later b w → R v w → wpL P ops Q τ (a.put (dstOf ops i) v) w) : wpT P ops Q τ [i] [] a b := by
  refine wpT_bag (fun _ => []) (fun _ vals w => R (vals i) w) (by simp [hd]) (fun _ _ vals w w' hl h => hst _ _ _ hl h) ?_ ?_ ?_
  · intro j hj k hk hne
    simp at hj hk
    exact absurd (hk.trans hj.symm) hne
  · intro j hj vals w hw _
    have : j = i := by simpa using hj
    subst this
    refine lVal_mono (fun v w' _ h => ?_) (hv w hw)
    rw [upd_same]; exact h
  · intro vals w hw hall
    exact h (vals i) w hw (hall i (by simp))
/-! Rows that lie in another block than one's own. -/
def OffS (g : Nat) : Value → Prop
  | .slice (some a) n _ => n = 0 ∨ a.block ≠ g
  | _ => True
/-- rows that are there lie in no block that comes -/
theorem Rw.old {sz : Nat} {w : World} {v : Value} {n : Nat} {xs : List Value} (h : Rw sz w v n xs) (hsz : 0 < sz) {g : Nat} (hg : w.heap.size ≤ g) : OffS g v := by
  obtain ⟨h1, h2, a, cap, rfl, hc, h3⟩ := h
  rcases h3 with h3 | ⟨b, off, rfl, hr⟩
  · cases a with
    | none => exact trivial
    | some a => exact .inl h3
  · by_cases h0 : n = 0
    · exact .inl h0
    · refine .inr fun e => ?_
      have hp : 0 < xs.length := by rw [h1]; exact Nat.mul_pos (by omega) hsz
      have h4 := hr 0 _ (List.getElem?_eq_getElem hp)
      have hlt : b < w.heap.size := World.block_lt_of_cell? w _ h4
      have e' : b = g := e
      omega
theorem sVal_store {P : Program} {ops : Array Oper} {i : Nat} {o : Oper} {R : Value → World → Prop} {a : Act} {w : World} (ho : ops[i]? = some o) (hgd : o.guard = none) (ty : TypeId) (x y : Operand) (hop : o.op = .store ty x y) (g : Nat) (cells : List Value) (hx : a.eval x = .pointer (some ⟨g, 0, none⟩)) (hy : a.eval y = .agg cells.toArray)
    (ht : w.there g 0 cells.length) (hi : (P.info? ty).map (·.size) = some cells.length) (h1 : ∀ v ∈ cells, v.oneCell' = true) (h : ∀ u, R u (w.setCells g 0 cells)) : sVal P ops i R a w := by
  unfold sVal
  simp only [ho]
  rw [if_pos (by simp [Region.wanted, hgd])]
  have hrun := run_storeAt_mid (P := P) w g 0 ty cells.toArray (by simpa using ht) (by simpa using hi) (all_oneCell_toArray h1)
  simp [execOp, hop, hx, hy, hrun, Result.andThen, sUpon]
  exact h _
theorem range_tail {w : World} {b o : Nat} {x : Value} {xs : List Value} (h : w.rangeAt b o (x :: xs)) : w.rangeAt b (o + 1) xs := fun j v hv => by
  have := h (j + 1) v (by simpa using hv)
  rwa [show o + (j + 1) = o + 1 + j from by omega] at this
theorem owns_head {w : World} {B : Nat} {e : TypeId} {sz : Nat} {v : Value} {n : Nat} {xs : List Value} (h : w.ownsRow B e sz v n xs) (hn : 0 < n) : ∃ g cap, v = .slice (some ⟨g, 0, none⟩) n cap ∧ B ≤ g := by
  rcases h.2 with ⟨_, h0⟩ | ⟨g, cap, cur, rfl, hb, _⟩
  · omega
  · exact ⟨g, cap, rfl, hb⟩
theorem wpT_loadG {P : Program} {ops : Array Oper} {Q : Exit → Act → World → Prop} {τ : List Nat} {i : Nat} {o : Oper} {σ μ : List Nat} {a : Act} {b : World} (ho : ops[i]? = some o) (hw : Region.wanted o (yielded ops a.tmps) = true) (ty : TypeId) (x : Operand) (hop : o.op = .load ty x)
    (k off : Nat) (hx : a.eval x = .pointer (some ⟨k, off, none⟩)) (cs : List Value) (d : TypeDesc) (hc : b.rangeAt k off cs) (hu : P.underlying ty = some d) (hd : d.isRow = true) (hi : (P.info? ty).map (·.size) = some cs.length)
    (h : wpT P ops Q τ σ μ (a.put o.dst (.agg cs.toArray)) b) : wpT P ops Q τ σ (i :: μ) a b := by
  refine ⟨o, ho, ?_⟩
  rw [if_pos hw]
  refine ⟨.agg cs.toArray, fun w hl => ?_, h⟩
  unfold execOp
  simp only [hop, hx, Instr.loadAt, Instr.sureAddr, Sem.run_bind, Sem.run_pure, Result.andThen_ok, run_loadVar_mid w k off ty cs d (hl.range hc) hu hd hi]
  simp [Oper.mildUpon]
theorem wpL_store {P : Program} {ops : Array Oper} {Q : Exit → Act → World → Prop} {τ : List Nat} {i : Nat} {o : Oper} {a : Act} {w : World} (ho : ops[i]? = some o) (hw : Region.wanted o (yielded ops a.tmps) = true) (ty : TypeId) (x y : Operand) (hop : o.op = .store ty x y)
    (b off : Nat) (cs : List Value) (hx : a.eval x = .pointer (some ⟨b, off, none⟩)) (hy : a.eval y = .agg cs.toArray) (ht : w.there b off cs.length) (hi : (P.info? ty).map (·.size) = some cs.length) (h1 : ∀ u ∈ cs, u.oneCell' = true)
    (h : wpL P ops Q τ (a.put o.dst undef) (w.setCells b off cs)) : wpL P ops Q (i :: τ) a w := by
  refine wpL_cons ho (fun K hK => ?_)
  rw [if_pos hw]
  exact wp_store_mid ty x y hop b off cs.toArray hx hy (by simpa using ht) (by simpa using hi) (all_oneCell_toArray h1) (hK _ _ h)
theorem owns_later {w w' : World} {B : Nat} {e : TypeId} {sz : Nat} {v : Value} {n : Nat} {xs : List Value} (h : w.ownsRow B e sz v n xs) (hl : Later w w') : w'.ownsRow B e sz v n xs :=
  owns_kept h fun g hg => hl.block g (h.lt g hg).2
/-- two results, the first one in a variable of its own -/
theorem results_cell_tmp {fn : Func} {p q : Tmp} {ty : TypeId} (h : fn.results = #[.cell p ty, .tmp q]) (tmps : Array Value) (P : Program) (w : World) (b o : Nat) (hp : tmps.getD p undef = .pointer (some ⟨b, o, none⟩)) (v u : Value) (hl : (loadVar ty ⟨b, o, none⟩).run P w = .ok v w) (hq : tmps.getD q undef = u) :
    (results fn tmps).run P w = .ok (.tuple #[v, u]) w := by
  have ha : (asAddr (tmps.getD p undef)).run P w = .ok ⟨b, o, none⟩ w := by rw [hp]; rfl
  simp only [results, h]
  simp only [List.mapM_toArray, Sem.run_bind]
  simp [ha, hl, hq, -Array.getD_eq_getD_getElem?]
theorem Box.all {w : World} {g : Nat} {t : TypeId} {xs : List Value} (h : Box w g t xs) (vs : List Value) (hl : vs.length = xs.length) : Box (w.setCells g 0 vs) g t vs := by
  have := h.setCells vs 0 (by omega)
  rw [List.take_zero, List.nil_append, List.drop_of_length_le (by omega), List.append_nil] at this
  exact this
theorem box_ne_own {w : World} {b : Nat} {t : TypeId} {xs : List Value} {B : Nat} {e : TypeId} {sz : Nat} {v : Value} {n : Nat} {ys : List Value} (hB : Box w b t xs) (ho : w.ownsRow B e sz v n ys) (hne : t ≠ e) (g : Nat) (hg : v.ownBlock = some g) : b ≠ g := by
  intro he
  subst he
  rcases ho.2 with ⟨rfl, _⟩ | ⟨g', cap, cur, rfl, _, hg', _⟩
  · simp [Value.ownBlock] at hg
  · simp [Value.ownBlock] at hg
    subst hg
    unfold Box at hB
    rw [hg'] at hB
    simp at hB
    exact hne hB.2.symm
theorem Box.kept {w w' : World} {g : Nat} {t : TypeId} {xs : List Value} (h : Box w g t xs) (hk : w'.heap[g]? = w.heap[g]?) : Box w' g t xs := by unfold Box; rw [hk]; exact h
theorem own_ne_own {w : World} {B B' : Nat} {e e' : TypeId} {sz sz' : Nat} {v v' : Value} {n n' : Nat} {xs ys : List Value} (h : w.ownsRow B e sz v n xs) (h' : w.ownsRow B' e' sz' v' n' ys) (hne : e ≠ e') (g : Nat) (hg : v.ownBlock = some g) : v'.ownBlock ≠ some g := by
  intro hg'
  rcases h.2 with ⟨rfl, _⟩ | ⟨g1, cap, cur, rfl, _, hc, _⟩
  · simp [Value.ownBlock] at hg
  · simp [Value.ownBlock] at hg
    subst hg
    rcases h'.2 with ⟨rfl, _⟩ | ⟨g2, cap', cur', rfl, _, hc', _⟩
    · simp [Value.ownBlock] at hg'
    · simp [Value.ownBlock] at hg'
      subst hg'
      rw [hc] at hc'
      simp at hc'
      exact hne hc'.2
theorem heap_setCells_other (w : World) (g k : Nat) (hk : k ≠ g) : ∀ (vs : List Value) (o : Nat), (w.setCells g o vs).heap[k]? = w.heap[k]? := by
  intro vs
  induction vs generalizing w with
  | nil => intro o; rfl
  | cons v vs ih => intro o; rw [World.setCells, ih]; exact heap_setCell_other w ⟨g, o, none⟩ k v hk
theorem owns_off {w : World} {B : Nat} {e : TypeId} {sz : Nat} {v : Value} {n : Nat} {xs : List Value} (h : w.ownsRow B e sz v n xs) {g : Nat} (hg : g < B) : OffS g v := by
  rcases h.2 with ⟨rfl, _⟩ | ⟨g', cap, cur, rfl, hb, _⟩
  · trivial
  · exact .inr (by simp; omega)
def OffM (g : Nat) (v : Value) : Prop := ∃ vb vd, v = .agg #[vb, vd] ∧ OffS g vb ∧ OffS g vd
end Go.Proofs.YtfakboehmcimpaaGreat

namespace Go.Proofs.YtfakboehmcimpaaGreat
open Go.ChangeShapes Go.WideShapes Go.ChangeAt Go.RowKit
set_option linter.unusedVariables false
set_option maxRecDepth 4000
set_option linter.unusedSimpArgs false
/-- the cached writes laid over the blocks, one behind the other -/
def app (F : List UInt8) (D : List Drt) : List UInt8 := D.foldl (fun F d => over F (d.1.toNat * 64) d.2) F
theorem app_snoc (F : List UInt8) (D : List Drt) (d : Drt) : app F (D ++ [d]) = over (app F D) (d.1.toNat * 64) d.2 := by simp [app]
def Fit (n : Nat) (D : List Drt) : Prop := ∀ d ∈ D, d.2.length = 64 ∧ 0 ≤ d.1 ∧ d.1 < n
theorem app_length (n : Nat) : ∀ (D : List Drt) (F : List UInt8), F.length = n * 64 → Fit n D → (app F D).length = n * 64
  | [], F, hF, _ => by simpa [app] using hF
  | d :: D, F, hF, h => by
    have hd := h d (by simp)
    show (app (over F (d.1.toNat * 64) d.2) D).length = n * 64
    exact app_length n D _ (by rw [over_length _ _ _ (by rw [hF, hd.1]; omega), hF]) fun x hx => h x (by simp [hx])
theorem fit_of_right {n : Nat} {D : List Drt} (h : rightB n D = true) (ho : Ok D) : Fit n D := fun d hd => by
  simp only [rightB, decide_eq_true_eq] at h
  exact ⟨(ho d hd).1, (h.2.2 d hd).1, (h.2.2 d hd).2⟩
def allF (n : Nat) (F : List UInt8) (D : List Drt) : List UInt8 := if rightB n D then app F D else []
def allN (n : Nat) (D : List Drt) : Nat := if rightB n D then n else 0
set_option maxHeartbeats 1000000 in
theorem rall_c {v : Value} {n : Nat} {F : List UInt8} {D : List Drt} (w : World) (h : Med w v n F D) :
    Calls Tryz.prog 31 #[v] w fun e w' => ∃ v', e = .returned v' ∧ Later w w' ∧ w'.ownsRow w.heap.size 80 64 v' (allN n D) (bv (allF n F D)) := by
  have HM := hide h
  obtain ⟨vb, vd, rfl, hb, hd, hok⟩ := h
  obtain ⟨ab, cb, rfl⟩ := hb.shape
  obtain ⟨k, hk⟩ : ∃ k, k = D.length := ⟨_, rfl⟩
  rw [← hk] at hd
  obtain ⟨aD, cD, rfl⟩ := hd.shape
  have hkm := hd.2.1
  unfold maxLen at hkm
  have HB := hide hb
  have HD := hide hd
  have HK := hide hk
  have HO := hide hok
  clear hb hd hk hok
  have BX0 := hide (Box.new w 25 #[.slice ab n cb, .slice aD k cD])
  have L0 := hide ((Later.refl w).alloc (.cells #[.slice ab n cb, .slice aD k cD] 25))
  go_enter Tryz.func31, Tryz.ntmps31
  go_wp2_with fail
  generalize (w.alloc (.cells #[.slice ab n cb, .slice aD k cD] 25)) = w1 at *
  refine (rright_c w1 (HM.out.later L0.out)).mono ?_
  rintro e w2 ⟨rfl, hl2⟩
  have L2 := hide (L0.out.trans hl2)
  have BX := hide (Box.later BX0.out hl2)
  clear hl2 L0 BX0
  have d0 := BX.out.cell 0
  have d1 := BX.out.cell 1
  by_cases hR : rightB n D = true
  case neg =>
    have hR' : rightB n D = false := by simpa using hR
    rw [hR']
    go_wp2
    go_ret
    refine ⟨_, rfl, L2.out, ?_⟩
    simp only [allN, allF, hR']
    exact World.ownsRow_nil _ _ _ _
  rw [hR]
  have hfit := hide (fit_of_right hR HO.out)
  have hn64 : n ≤ 64 := by simp only [rightB, decide_eq_true_eq] at hR; exact hR.1
  go_wp2_with fail
  refine (rcopy_c w2 w2.heap.size (Nat.le_refl _) (HB.out.later L2.out) (by omega)).mono ?_
  rintro e w3 ⟨v3, rfl, hl3, ho3⟩
  have L3 := hide hl3
  have O3 := hide ho3
  clear hl3 ho3 d0 d1
  have d0 := (Box.later BX.out L3.out).cell 0
  have d1 := (Box.later BX.out L3.out).cell 1
  go_wp2_with fail
  go_loopw [4] (fun i wr => ∃ q : Nat, q ≤ k ∧ i = .int .i64 q ∧ Hid (Later w2 wr) ∧ Hid (wr.ownsRow w2.heap.size 80 64 v3 n (bv (app F (D.take q))))) (fun i _ => k - (intOf i).toNat)
  case atStart => exact ⟨0, Nat.zero_le _, rfl, L3, by simpa [app] using O3⟩
  case round =>
    clear d0 d1
    obtain ⟨q, hq, rfl, hl, ho⟩ := hrel
    have d0 := (Box.later BX.out hl.out).cell 0
    have d1 := (Box.later BX.out hl.out).cell 1
    by_cases hlt : q < k
    · have hqD : q < D.length := by have := HK.out; omega
      have hdq := hfit.out D[q] (List.getElem_mem hqD)
      obtain ⟨z, hz⟩ := Int.eq_ofNat_of_zero_le hdq.2.1
      have hzn : z < n := by have := hdq.2.2; omega
      obtain ⟨bD, oD, e, hr⟩ := (HD.out.later (L2.out.trans hl.out)).lies? (by omega)
      subst e
      have hra := range_part hr (q * 65) 65
      rw [dv_part D q hqD HO.out] at hra
      have hat := hr _ _ (dv_at D q hqD HO.out)
      rw [hz] at hat
      have hrd := hide (range_tail hra)
      have hdl := hide hdq.1
      obtain ⟨g, capg, e, hg⟩ := owns_head ho.out (by omega)
      subst e
      have happ : Hid (app F (D.take (q + 1)) = over (app F (D.take q)) (z * 64) D[q].2) := by
        unfold Hid
        rw [List.take_succ_eq_append_getElem hqD, app_snoc, hz]
        rfl
      have hlenA : Hid ((app F (D.take q)).length = n * 64) := by
        refine app_length n _ F ?_ fun x hx => hfit.out x (List.mem_of_mem_take hx)
        have := HB.out.1
        rwa [bv_length] at this
      generalize D[q].2 = X at *
      clear hra hr hdq hz
      have g1 := fun r => (Box.later BX.out (hl.out.trans ((Later.refl wr).drew.trans (later_rg wr.drew r)))).cell 1
      have g2 := fun r => ((Later.refl wr).drew.trans (later_rg wr.drew r)).cellOf hat
      go_wp2_with fail
      refine wp_region_tree [0, 1, 2, 3, 4, 5, 6, 7, 8, 9, 10, 11, 12, 13] [] [14] (by kernel_rfl) (by kernel_rfl) (by kernel_rfl) (by kernel_rfl) ?_
      iterate 12 (refine wpT_mild rfl (fun K hK => ?_); go_simp; refine hK _ ?_; clear hK K)
      refine wpT_loadG rfl (by kernel_rfl) 80 (.tmp 29) rfl bD (oD + q * 65 + 1) rfl (bv X) _ ((World.rangeAt_drew _ _ _ _).2 hrd.out) Tryz.underlying80 rfl (by rw [Tryz.info_block, bv_length, hdl.out]) ?_
      iterate 1 (refine wpT_mild rfl (fun K hK => ?_); go_simp; refine hK _ ?_; clear hK K)
      refine wpT_done (fun wx hwx => ?_)
      have ox := owns_later ho.out ((Later.refl wr).drew.trans hwx)
      have hlx : Later w2 wx := hl.out.drew.trans hwx
      have ht : wx.there g (z * 64) (bv X).length := by
        rw [bv_length, hdl.out]
        exact owns_there ox (z * 64) 64 (by omega)
      have hnew := (owns_setCells ox (bv X) (z * 64) (by rw [bv_length, hdl.out]; omega)).1
      have hlnew : Later w2 (wx.setCells g (z * 64) (bv X)) := hlx.setCells hg (bv X) (z * 64)
      rw [← bv_over, ← happ.out] at hnew
      refine wpL_store rfl (by kernel_rfl) 80 (.tmp 31) (.tmp 30) rfl g (z * 64) (bv X) rfl rfl ht (by rw [Tryz.info_block, bv_length, hdl.out]) (bv_one X) (wpL_nil ?_)
      have NL := hide hlnew
      have NO := hide hnew
      clear hnew hlnew ht hlx ox hwx g1 g2 hat hrd hdl happ hlenA d0 d1
      generalize wx.setCells g (z * 64) (bv X) = wz at *
      go_wp2
      go_roundw
      case rel => exact ⟨q + 1, by omega, by go_num, NL, NO⟩
      case measure => simp [intOf]; omega
    · have hkq : q = k := by omega
      go_wp2
      go_ret
      refine ⟨_, rfl, L2.out.trans hl.out, ?_⟩
      have := ho.out
      rw [hkq, HK.out, List.take_length] at this
      simp only [allN, allF, hR, if_true]
      exact this.mono L2.out.size
end Go.Proofs.YtfakboehmcimpaaGreat

namespace Go.Proofs.YtfakboehmcimpaaGreat
open Go.ChangeShapes Go.WideShapes Go.ChangeAt Go.RowKit
set_option linter.unusedVariables false
set_option maxRecDepth 4000
set_option linter.unusedSimpArgs false
end Go.Proofs.YtfakboehmcimpaaGreat

namespace Go.Proofs.YtfakboehmcimpaaGreat
open Go.ChangeShapes Go.WideShapes Go.ChangeAt Go.RowKit
set_option linter.unusedVariables false
set_option maxRecDepth 4000
set_option linter.unusedSimpArgs false
def inR (f t : Int) (d : Drt) : Bool := decide (f ≤ d.1 ∧ d.1 < t)
set_option maxRecDepth 20000 in
set_option maxHeartbeats 2000000 in
theorem rflushed_c {v : Value} {n : Nat} {F : List UInt8} {D : List Drt} (f t : Int) (w : World) (h : Med w v n F D) (hn : n ≤ 64) (hk64 : D.length ≤ 64) (hfit : Fit n D) :
    Calls Tryz.prog 121 #[v, .int .i64 f, .int .i64 t] w fun e w' => ∃ vb vd, e = .returned (.agg #[vb, vd]) ∧ Later w w' ∧
      w'.ownsRow w.heap.size 80 64 vb n (bv (app F (D.filter (inR f t)))) ∧ w'.ownsRow w.heap.size 83 65 vd (D.filter fun d => !inR f t d).length (dv (D.filter fun d => !inR f t d)) := by
  obtain ⟨vb, vd, rfl, hb, hd, hok⟩ := h
  obtain ⟨ab, cb, rfl⟩ := hb.shape
  obtain ⟨k, hk⟩ : ∃ k, k = D.length := ⟨_, rfl⟩
  rw [← hk] at hd hk64
  obtain ⟨aD, cD, rfl⟩ := hd.shape
  have HB := hide hb
  have HD := hide hd
  have HK := hide hk
  have HO := hide hok
  have HF := hide hfit
  clear hb hd hk hok hfit
  go_enter Tryz.func121, Tryz.ntmps121
  go_wp2_with fail
  refine (rcopy_c _ _ (Nat.le_refl _) (HB.out.later (((Later.refl w).alloc _).alloc _)) (by omega)).mono ?_
  rintro e w2 ⟨v2, rfl, hl2, ho2⟩
  have L2 : Hid (Later w w2) := Later.trans (((Later.refl w).alloc _).alloc _) hl2
  have BX : Hid (Box w2 w.heap.size 25 [.slice ab n cb, .slice aD k cD]) := Box.later ((Box.new w 25 #[.slice ab n cb, .slice aD k cD]).alloc _) hl2
  have BR : Hid (Box w2 (w.heap.size + 1) 25 [.slice none 0 0, .slice none 0 0]) := Box.later (Box.new' _ _ _ _ rfl _ (by simp)) hl2
  have O2 : Hid (w2.ownsRow w.heap.size 80 64 v2 n (bv F)) := ho2.mono (by simp; omega)
  clear hl2 ho2
  obtain ⟨a2, c2, rfl⟩ := (Rw.of_owns O2.out).shape
  go_wp2_with fail
  have BX1 := hide (BX.out.alloc (.cells #[.slice a2 n c2, .slice none 0 0] 25))
  have BR1 := hide (BR.out.alloc (.cells #[.slice a2 n c2, .slice none 0 0] 25))
  have BO1 := hide (Box.new w2 25 #[.slice a2 n c2, .slice none 0 0])
  have O1 := hide (O2.out.alloc (.cells #[.slice a2 n c2, .slice none 0 0] 25))
  have L1 := hide (L2.out.alloc (.cells #[.slice a2 n c2, .slice none 0 0] 25))
  have hG2 : w.heap.size + 1 < w2.heap.size := BR.out.lt
  clear BX BR O2 L2
  generalize (w2.alloc (.cells #[.slice a2 n c2, .slice none 0 0] 25)) = w3 at *
  generalize w2.heap.size = G2 at *
  go_loopw [8] (fun i wr => ∃ (q : Nat) (vd : Value), q ≤ k ∧ i = .int .i64 q ∧ Hid (Later w wr) ∧ Hid (Box wr w.heap.size 25 [.slice ab n cb, .slice aD k cD]) ∧ Hid (Box wr (w.heap.size + 1) 25 [.slice none 0 0, .slice none 0 0]) ∧ Hid (Box wr G2 25 [.slice a2 n c2, vd]) ∧
      Hid (wr.ownsRow w.heap.size 80 64 (.slice a2 n c2) n (bv (app F ((D.take q).filter (inR f t))))) ∧ Hid (wr.ownsRow w.heap.size 83 65 vd ((D.take q).filter fun d => !inR f t d).length (dv ((D.take q).filter fun d => !inR f t d)))) (fun i _ => k - (intOf i).toNat)
  case atStart => exact ⟨0, _, Nat.zero_le _, rfl, L1, BX1, BR1, BO1, by simpa [app] using O1, by simpa [dv, Hid] using World.ownsRow_nil _ _ _ _⟩
  case round =>
    clear BX1 BR1 BO1 O1 L1
    obtain ⟨q, vd, hq, rfl, hl, hbx, hbr, hbo, hob, hod⟩ := hrel
    have d0 := hbx.out.cell 0
    have d1 := hbx.out.cell 1
    by_cases hlt : q < k
    · have hqD : q < D.length := by have := HK.out; omega
      have hdq := HF.out D[q] (List.getElem_mem hqD)
      obtain ⟨z, hz⟩ := Int.eq_ofNat_of_zero_le hdq.2.1
      have hzn : z < n := by have := hdq.2.2; omega
      obtain ⟨bD, oD, e, hr⟩ := (HD.out.later hl.out).lies? (by omega)
      subst e
      have hra := range_part hr (q * 65) 65
      rw [dv_part D q hqD HO.out] at hra
      have hin : Hid (inR f t D[q] = decide (f ≤ z ∧ (z : Int) < t)) := by unfold inR Hid; rw [hz]
      have hyes : Hid (inR f t D[q] = true → (D.take (q + 1)).filter (inR f t) = (D.take q).filter (inR f t) ++ [((z : Int), D[q].2)] ∧ ((D.take (q + 1)).filter fun d => !inR f t d) = (D.take q).filter fun d => !inR f t d) := by
        intro h
        rw [List.take_succ_eq_append_getElem hqD, List.filter_append, List.filter_append, ← hz]
        simp [List.filter_cons, h]
      have hno : Hid (inR f t D[q] = false → (D.take (q + 1)).filter (inR f t) = (D.take q).filter (inR f t) ∧ ((D.take (q + 1)).filter fun d => !inR f t d) = ((D.take q).filter fun d => !inR f t d) ++ [((z : Int), D[q].2)]) := by
        intro h
        rw [List.take_succ_eq_append_getElem hqD, List.filter_append, List.filter_append, ← hz]
        simp [List.filter_cons, h]
      have hXl := hide hdq.1
      rw [hz] at hra
      have hra' := hide hra
      generalize inR f t D[q] = bb at *
      generalize D[q].2 = X at *
      clear hra hr hdq hz
      have hcl : Hid ((Value.int .i64 (z : Int) :: bv X).length = 65) := by simp [Hid, bv_length, hXl.out]
      have hbox := hide (Box.new' wr 83 (#[.int .i64 0] ++ Array.replicate 64 (.int .u8 0)) _ rfl wr.heap.size rfl)
      have hbl1 := hide (hl.out.alloc (.cells (#[.int .i64 0] ++ Array.replicate 64 (.int .u8 0)) 83))
      have hszr := hl.out.size
      go_wp2_with (first
        | refine wpList_load_mid rfl 83 (.tmp 24) rfl bD (oD + q * 65) rfl (Value.int .i64 (z : Int) :: bv X) _ hra'.out Tryz.underlying83 rfl (by rw [Tryz.info_dirty, hcl.out]) ?_
        | refine wpList_store_new rfl 83 (.tmp 9) (.tmp 25) rfl wr.heap.size (Value.int .i64 (z : Int) :: bv X) rfl rfl _ hbox.out (by rw [hcl.out]; rfl) (by rw [hcl.out, Tryz.info_dirty]) (fun u hu => by rcases List.mem_cons.1 hu with rfl | h; rfl; exact bv_one X u h) w hbl1.out hszr ?_)
      intro w5 hb5 hl5 hk5 hs5
      have hkeep : ∀ j, j < wr.heap.size → w5.heap[j]? = wr.heap[j]? := fun j hj => by rw [hk5 j (by omega)]; exact Below.heap_alloc wr _ j hj
      have X5 : Hid (Box w5 w.heap.size 25 [.slice ab n cb, .slice (some ⟨bD, oD, none⟩) k cD]) := hbx.out.kept (hkeep _ hbx.out.lt)
      have R5 : Hid (Box w5 (w.heap.size + 1) 25 [.slice none 0 0, .slice none 0 0]) := hbr.out.kept (hkeep _ hbr.out.lt)
      have U5 : Hid (Box w5 G2 25 [.slice a2 n c2, vd]) := hbo.out.kept (hkeep _ hbo.out.lt)
      have B5 := hide (owns_kept hob.out fun g hg => hkeep g (hob.out.lt g hg).2)
      have D5 := hide (owns_kept hod.out fun g hg => hkeep g (hod.out.lt g hg).2)
      have E5 := hide hb5
      have L5 := hide hl5
      have hXf : Hid ((app F ((D.take q).filter (inR f t))).length = n * 64) := by
        refine app_length n _ F ?_ fun x hx => HF.out x (List.mem_of_mem_take (List.mem_filter.1 hx).1)
        have := HB.out.1
        rwa [bv_length] at this
      have e0 := hb5.cell 0
      have u0 := U5.out.cell 0
      have u1 := U5.out.cell 1
      clear hkeep hk5 hs5 hb5 hl5 hbx hbr hbo hob hod hl hbox hbl1 hszr d0 d1 hra'
      generalize wr.heap.size = G at *
      cases bb with
      | true =>
        have hc := hin.out
        rw [eq_comm, decide_eq_true_eq] at hc
        have cc1 := hc.1
        have cc2 := hc.2
        obtain ⟨g, cg, e, hg⟩ := owns_head B5.out (by omega)
        simp only [Value.slice.injEq, true_and] at e
        obtain ⟨rfl, rfl⟩ := e
        have hrX := hide (range_tail E5.out.range)
        have hth : Hid (w5.there g (z * 64) (bv X).toArray.size) := by
          have := owns_there B5.out (z * 64) 64 (by omega)
          unfold Hid
          simpa [bv_length, hXl.out] using this
        have hnew := (owns_setCells B5.out (bv X) (z * 64) (by rw [bv_length, hXl.out]; omega)).1
        rw [← bv_over] at hnew
        have ho1 : ∀ b t xs, t ≠ 80 → Box w5 b t xs → Box (w5.setCells g (z * 64) (bv X)) b t xs := fun b t xs hne hB => by
          unfold Box
          rw [heap_setCells_other w5 g b (box_ne_own hB B5.out hne g rfl)]
          exact hB
        have N1 : Hid ((w5.setCells g (z * 64) (bv X)).ownsRow w.heap.size 80 64 (.slice (some ⟨g, 0, none⟩) n c2) n (bv (app F ((D.take (q + 1)).filter (inR f t))))) := by
          have h := (hyes.out (by simp)).1
          unfold Hid
          rw [h, app_snoc]
          exact hnew
        have N2 : Hid ((w5.setCells g (z * 64) (bv X)).ownsRow w.heap.size 83 65 vd ((D.take (q + 1)).filter fun d => !inR f t d).length (dv ((D.take (q + 1)).filter fun d => !inR f t d))) := by
          have h := (hyes.out (by simp)).2
          unfold Hid
          rw [h]
          exact owns_kept D5.out fun j hj => heap_setCells_other w5 g j (fun e => own_ne_own B5.out D5.out (by decide) g rfl (by rw [← e]; exact hj)) _ _
        have N3 := hide (ho1 _ _ _ (by decide) X5.out)
        have N4 := hide (ho1 _ _ _ (by decide) R5.out)
        have N5 := hide (ho1 _ _ _ (by decide) U5.out)
        have N6 := hide (L5.out.setCells hg (bv X) (z * 64))
        clear ho1 hnew X5 R5 U5 D5 L5 hyes hno hXf
        go_wp2_with (first
          | refine wpList_load_mid rfl 80 (.tmp 40) rfl G 1 rfl (bv X) _ hrX.out Tryz.underlying80 rfl (by rw [Tryz.info_block, bv_length, hXl.out]) ?_
          | refine wpList_store_mid rfl 80 (.tmp 42) (.tmp 41) rfl g (z * 64) (bv X).toArray rfl rfl hth.out (by rw [Tryz.info_block]; simp [bv_length, hXl.out]) (all_oneCell_toArray (bv_one _)) ?_)
        go_roundw
        case rel => exact ⟨q + 1, vd, by omega, by go_num, N6, N3, N4, N5, N1, N2⟩
        case measure => simp [intOf]; omega
      | false =>
        have hc := hin.out
        rw [eq_comm, decide_eq_false_iff_not] at hc
        have hone : Hid (∀ u ∈ (Value.int .i64 (z : Int) :: bv X), u.oneCell' = true) := fun u hu => by rcases List.mem_cons.1 hu with rfl | h; rfl; exact bv_one X u h
        have hlenD : Hid (((D.take q).filter fun d => !inR f t d).length ≤ 64) := Nat.le_trans (List.length_filter_le _ _) (by simp; omega)
        by_cases cc1 : f ≤ (z : Int)
        · have cc2 : t ≤ (z : Int) := by omega
          go_wp2_with (first
            | refine wpList_load_mid rfl 83 (.tmp 9) rfl G 0 rfl (Value.int .i64 (z : Int) :: bv X) _ E5.out.range Tryz.underlying83 rfl (by rw [Tryz.info_dirty, hcl.out]) ?_
            | refine wpList_buildOne Tryz.elem_dirty Tryz.underlying23 z65_size (by decide) (by decide) rfl (.tmp 45) rfl (Value.int .i64 (z : Int) :: bv X) rfl hcl.out ?_)
          intro w6 hr6 hl6 hs6
          have X6 := hide (X5.out.later hl6)
          have R6 := hide (R5.out.later hl6)
          have U6 := hide (U5.out.later hl6)
          have B6 := hide (owns_later B5.out hl6)
          have D6 := hide (owns_later D5.out hl6)
          have L6 := hide (L5.out.trans hl6)
          have S6 := hide hr6
          have hz6 := L6.out.size
          clear hr6 hl6 hs6 X5 R5 U5 B5 D5 L5 e0 u0 u1
          go_wp2_with (at_builtin; refine wpList_append_rw Tryz.elem_dirty Tryz.underlying23 z65_size (by decide) rfl (.tmp 44) (.tmp 46) rfl w.heap.size _ _ _ rfl D6.out _ 1 (Value.int .i64 (z : Int) :: bv X) rfl S6.out hone.out ?m1 ?m2 hz6 w L6.out ?_)
          case m1 => have := hlenD.out; omega
          case m2 => have := hlenD.out; unfold maxLen; omega
          intro v7 w7 ho7 hb7 hg7
          have X7 := hide (box_grown X6.out D6.out (by decide) hg7)
          have R7 := hide (box_grown R6.out D6.out (by decide) hg7)
          have U7 := hide (box_grown U6.out D6.out (by decide) hg7)
          have B7 : Hid (w7.ownsRow w.heap.size 80 64 (.slice a2 n c2) n (bv (app F ((D.take q).filter (inR f t))))) := owns_kept B6.out fun g hg => hg7.block g (B6.out.lt g hg).2 (fun e => own_ne_own B6.out D6.out (by decide) g hg e.symm)
          have D7 : Hid (w7.ownsRow w.heap.size 83 65 v7 ((D.take (q + 1)).filter fun d => !inR f t d).length (dv ((D.take (q + 1)).filter fun d => !inR f t d))) := by
            have h := (hno.out (by simp)).2
            unfold Hid
            rw [h, dv_append, List.length_append]
            simpa [dv] using ho7
          have L7 : Hid (Later w w7) := hb7
          clear ho7 hb7 hg7 X6 R6 U6 B6 D6 L6 S6 hz6
          obtain ⟨m7, hm7⟩ : ∃ m, m = ((D.take (q + 1)).filter fun d => !inR f t d).length := ⟨_, rfl⟩
          rw [← hm7] at D7
          obtain ⟨a7, c7, rfl⟩ := (Rw.of_owns D7.out).shape
          have HM7 := hide hm7
          clear hm7
          have u1 := U7.out.cell 1
          have uf := U7.out.frozen 1
          have N1 : Hid ((w7.setCell ⟨G2, 1, none⟩ (.slice a7 m7 c7)).ownsRow w.heap.size 80 64 (.slice a2 n c2) n (bv (app F ((D.take (q + 1)).filter (inR f t))))) := by
            have h := (hno.out (by simp)).1
            unfold Hid
            rw [h]
            exact owns_kept B7.out fun g hg => heap_setCell_other _ _ _ _ (fun e => box_ne_own U7.out B7.out (by decide) g hg e.symm)
          have N2 : Hid ((w7.setCell ⟨G2, 1, none⟩ (.slice a7 m7 c7)).ownsRow w.heap.size 83 65 (.slice a7 m7 c7) m7 (dv ((D.take (q + 1)).filter fun d => !inR f t d))) :=
            owns_kept D7.out fun g hg => heap_setCell_other _ _ _ _ (fun e => box_ne_own U7.out D7.out (by decide) g hg e.symm)
          have N3 := hide (X7.out.other ⟨G2, 1, none⟩ (.slice a7 m7 c7) (by simp; omega))
          have N4 := hide (R7.out.other ⟨G2, 1, none⟩ (.slice a7 m7 c7) (by simp; omega))
          have N5 := hide (U7.out.set 1 (.slice a7 m7 c7))
          have N6 := hide (L7.out.setCell (a := ⟨G2, 1, none⟩) (by simp; omega) (.slice a7 m7 c7))
          clear X7 R7 U7 B7 D7 L7
          go_wp2
          go_roundw
          case rel => exact ⟨q + 1, .slice a7 m7 c7, by omega, by go_num, N6, N3, N4, N5, N1, by rw [← HM7.out]; exact N2⟩
          case measure => simp [intOf]; omega
        · have cc2 : (z : Int) < f := by omega
          go_wp2_with (first
            | refine wpList_load_mid rfl 83 (.tmp 9) rfl G 0 rfl (Value.int .i64 (z : Int) :: bv X) _ E5.out.range Tryz.underlying83 rfl (by rw [Tryz.info_dirty, hcl.out]) ?_
            | refine wpList_buildOne Tryz.elem_dirty Tryz.underlying23 z65_size (by decide) (by decide) rfl (.tmp 45) rfl (Value.int .i64 (z : Int) :: bv X) rfl hcl.out ?_)
          intro w6 hr6 hl6 hs6
          have X6 := hide (X5.out.later hl6)
          have R6 := hide (R5.out.later hl6)
          have U6 := hide (U5.out.later hl6)
          have B6 := hide (owns_later B5.out hl6)
          have D6 := hide (owns_later D5.out hl6)
          have L6 := hide (L5.out.trans hl6)
          have S6 := hide hr6
          have hz6 := L6.out.size
          clear hr6 hl6 hs6 X5 R5 U5 B5 D5 L5 e0 u0 u1
          go_wp2_with (at_builtin; refine wpList_append_rw Tryz.elem_dirty Tryz.underlying23 z65_size (by decide) rfl (.tmp 44) (.tmp 46) rfl w.heap.size _ _ _ rfl D6.out _ 1 (Value.int .i64 (z : Int) :: bv X) rfl S6.out hone.out ?m1 ?m2 hz6 w L6.out ?_)
          case m1 => have := hlenD.out; omega
          case m2 => have := hlenD.out; unfold maxLen; omega
          intro v7 w7 ho7 hb7 hg7
          have X7 := hide (box_grown X6.out D6.out (by decide) hg7)
          have R7 := hide (box_grown R6.out D6.out (by decide) hg7)
          have U7 := hide (box_grown U6.out D6.out (by decide) hg7)
          have B7 : Hid (w7.ownsRow w.heap.size 80 64 (.slice a2 n c2) n (bv (app F ((D.take q).filter (inR f t))))) := owns_kept B6.out fun g hg => hg7.block g (B6.out.lt g hg).2 (fun e => own_ne_own B6.out D6.out (by decide) g hg e.symm)
          have D7 : Hid (w7.ownsRow w.heap.size 83 65 v7 ((D.take (q + 1)).filter fun d => !inR f t d).length (dv ((D.take (q + 1)).filter fun d => !inR f t d))) := by
            have h := (hno.out (by simp)).2
            unfold Hid
            rw [h, dv_append, List.length_append]
            simpa [dv] using ho7
          have L7 : Hid (Later w w7) := hb7
          clear ho7 hb7 hg7 X6 R6 U6 B6 D6 L6 S6 hz6
          obtain ⟨m7, hm7⟩ : ∃ m, m = ((D.take (q + 1)).filter fun d => !inR f t d).length := ⟨_, rfl⟩
          rw [← hm7] at D7
          obtain ⟨a7, c7, rfl⟩ := (Rw.of_owns D7.out).shape
          have HM7 := hide hm7
          clear hm7
          have u1 := U7.out.cell 1
          have uf := U7.out.frozen 1
          have N1 : Hid ((w7.setCell ⟨G2, 1, none⟩ (.slice a7 m7 c7)).ownsRow w.heap.size 80 64 (.slice a2 n c2) n (bv (app F ((D.take (q + 1)).filter (inR f t))))) := by
            have h := (hno.out (by simp)).1
            unfold Hid
            rw [h]
            exact owns_kept B7.out fun g hg => heap_setCell_other _ _ _ _ (fun e => box_ne_own U7.out B7.out (by decide) g hg e.symm)
          have N2 : Hid ((w7.setCell ⟨G2, 1, none⟩ (.slice a7 m7 c7)).ownsRow w.heap.size 83 65 (.slice a7 m7 c7) m7 (dv ((D.take (q + 1)).filter fun d => !inR f t d))) :=
            owns_kept D7.out fun g hg => heap_setCell_other _ _ _ _ (fun e => box_ne_own U7.out D7.out (by decide) g hg e.symm)
          have N3 := hide (X7.out.other ⟨G2, 1, none⟩ (.slice a7 m7 c7) (by simp; omega))
          have N4 := hide (R7.out.other ⟨G2, 1, none⟩ (.slice a7 m7 c7) (by simp; omega))
          have N5 := hide (U7.out.set 1 (.slice a7 m7 c7))
          have N6 := hide (L7.out.setCell (a := ⟨G2, 1, none⟩) (by simp; omega) (.slice a7 m7 c7))
          clear X7 R7 U7 B7 D7 L7
          go_wp2
          go_roundw
          case rel => exact ⟨q + 1, .slice a7 m7 c7, by omega, by go_num, N6, N3, N4, N5, N1, by rw [← HM7.out]; exact N2⟩
          case measure => simp [intOf]; omega
    · have hkq : q = k := by omega
      have B1 : Hid (wr.ownsRow w.heap.size 80 64 (.slice a2 n c2) n (bv (app F (D.filter (inR f t))))) := by have := hob.out; rw [hkq, HK.out, List.take_length] at this; exact this
      have D1 : Hid (wr.ownsRow w.heap.size 83 65 vd (D.filter fun d => !inR f t d).length (dv (D.filter fun d => !inR f t d))) := by have := hod.out; rw [hkq, HK.out, List.take_length] at this; exact this
      obtain ⟨m7, hm7⟩ : ∃ m, m = (D.filter fun d => !inR f t d).length := ⟨_, rfl⟩
      rw [← hm7] at D1
      have HM7 := hide hm7
      clear hm7
      obtain ⟨a7, c7, rfl⟩ := (Rw.of_owns D1.out).shape
      have u0 := hbo.out.cell 0
      have u1 := hbo.out.cell 1
      have r0 := hbr.out.cell 0
      have r1 := hbr.out.cell 1
      have f0 := hbr.out.frozen 0
      have f1 := hbr.out.frozen 1
      have hw1 : Hid (Box ((wr.setCell ⟨w.heap.size + 1, 0, none⟩ (.slice a2 n c2)).setCell ⟨w.heap.size + 1, 1, none⟩ (.slice a7 m7 c7)) (w.heap.size + 1) 25 [.slice a2 n c2, .slice a7 m7 c7]) := (hbr.out.set 0 _).set 1 _
      have hne : ∀ g, g ≠ w.heap.size + 1 → ((wr.setCell ⟨w.heap.size + 1, 0, none⟩ (.slice a2 n c2)).setCell ⟨w.heap.size + 1, 1, none⟩ (.slice a7 m7 c7)).heap[g]? = wr.heap[g]? := fun g hg => by
        rw [heap_setCell_other _ _ _ _ (by simpa using hg), heap_setCell_other _ _ _ _ (by simpa using hg)]
      have N1 := hide (owns_kept B1.out fun g hg => hne g (fun e => box_ne_own hbr.out B1.out (by decide) g hg e.symm))
      have N2 := hide (owns_kept D1.out fun g hg => hne g (fun e => box_ne_own hbr.out D1.out (by decide) g hg e.symm))
      have N6 : Hid (Later w ((wr.setCell ⟨w.heap.size + 1, 0, none⟩ (.slice a2 n c2)).setCell ⟨w.heap.size + 1, 1, none⟩ (.slice a7 m7 c7))) := (hl.out.setCell (by simp) _).setCell (by simp) _
      clear hne hob hod hbx hbr hl B1 D1
      go_wp2
      refine bodyPost_ret (results_cell1 rfl _ _ _ (w.heap.size + 1) 0 rfl (.agg #[.slice a2 n c2, .slice a7 m7 c7]) (run_loadVar_mid _ _ _ _ [.slice a2 n c2, .slice a7 m7 c7] _ hw1.out.range Tryz.underlying25 rfl (by kernel_rfl))) rfl ⟨_, _, rfl, N6.out, N1.out, ?_⟩
      rw [← HM7.out]
      exact N2.out
end Go.Proofs.YtfakboehmcimpaaGreat
