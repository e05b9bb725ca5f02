import Derived.Test.YtmelkgmbiiobgaaMAR
import Derived.Test.YtmelkgmbiiobgaaMAK
import Derived.Test.YtmelkgmbiiobgaaMAL
import Derived.Test.YtmelkgmbiiobgaaMAI
import Derived.Test.YtmelkgmbiiobgaaMAJ
namespace Go.Proofs.Ytmelkgmbiiobgaa
open Go.ChangeShapes Go.WideShapes Go.ChangeAt Go.RowKit
set_option linter.unusedVariables false
set_option maxRecDepth 4000
set_option linter.unusedSimpArgs false
/-! 'return u, f(..)' in a region that draws its order: a unit, and an intent that a call gives. -/
def Fr11 (w0 b : World) (g4 g5 : Nat) : Prop := Later w0 b ∧ w0.heap.size ≤ g4 ∧ w0.heap.size ≤ g5 ∧ g4 ≠ g5 ∧ (∃ z, Box b g4 32 z ∧ z.length = 10 ∧ NoB z) ∧ (∃ z, Box b g5 43 z ∧ z.length = 17 ∧ NoB z)
theorem Fr11.later {w0 b c : World} {g4 g5 : Nat} (h : Fr11 w0 b g4 g5) (hl : Later b c) : Fr11 w0 c g4 g5 := by
  obtain ⟨h1, h2, h3, h4, ⟨z, h5, h6, h7⟩, z', h8, h9, h10⟩ := h
  exact ⟨h1.trans hl, h2, h3, h4, ⟨z, h5.later hl, h6, h7⟩, z', h8.later hl, h9, h10⟩
/-- the two stores -/
theorem fin_put {ops : Array Oper} {Q : Exit → Act → World → Prop} {a : Act} {b : World} {sU sI : Nat} {dI : Tmp} {bb : World} {n : Nat} {r cc : Bool} {am : Option Addr} {cm : Nat} {M : List Sns} {T : Utt × Itt} (w0 : World) (g4 g5 : Nat) (hF : Fr11 w0 b g4 g5) (pU vU pI : Tmp) (hsU : OpAt ops sU none (.store 32 (.tmp pU) (.tmp vU))) (hsI : OpAt ops sI none (.store 43 (.tmp pI) (.tmp dI))) (cu : List Value) (eU : a.eval (.tmp pU) = .pointer (some ⟨g4, 0, none⟩)) (eV : a.eval (.tmp vU) = .agg cu.toArray) (eI : a.eval (.tmp pI) = .pointer (some ⟨g5, 0, none⟩)) (y : List Value) (eJ : a.eval (.tmp dI) = .agg y.toArray) (hP : PdI bb n r cc am cm M T cu y b)
    (h : ∀ W, Later w0 W → Box W g4 32 cu → Box W g5 43 y → PdI bb n r cc am cm M T cu y W → Q .normal a W) : wpL Try.prog ops Q [sU, sI] a b := by
  obtain ⟨oU, u1, u2, u3, u4⟩ := hsU
  obtain ⟨oI, i1, i2, i3, i4⟩ := hsI
  obtain ⟨h1, h2, h3, h4, ⟨z, h5, h6, h7⟩, z', h8, h9, h10⟩ := hF
  obtain ⟨⟨l1, n1, c1⟩, l2, n2, c2⟩ := hP.one
  refine wpL_store u1 (by simp [Region.wanted, u2]) 32 (.tmp pU) (.tmp vU) u4 g4 0 cu eU eV (h5.there 0 cu.length (by omega)) (by rw [Try.info_unit, l1]) c1 ?_
  have P1 := hP.set (.inl rfl) h5 h7 cu
  have B4 := h5.all cu (by omega)
  have B5 := h8.apart g4 (fun e => h4 e.symm) cu 0
  have L1 := h1.setCells h2 cu 0
  rw [u3]
  change wpL Try.prog ops Q [sI] a _
  refine wpL_store i1 (by simp [Region.wanted, i2]) 43 (.tmp pI) (.tmp dI) i4 g5 0 y eI eJ (B5.there 0 y.length (by omega)) (by rw [Try.info_intent, l2]) c2 ?_
  rw [i3]
  change wpL Try.prog ops Q [] a _
  exact wpL_nil (h _ (L1.setCells h3 y 0) (B4.apart g5 h4 y 0) (B5.all y (by omega)) (P1.set (.inr rfl) B5 h10 y))
/-- one call -/
theorem fin_one {ops : Array Oper} {Q : Exit → Act → World → Prop} {a : Act} {b : World} {sU sI : Nat} {dI : Tmp} {bb : World} {n : Nat} {r cc : Bool} {am : Option Addr} {cm : Nat} {M : List Sns} {T : Utt × Itt} (w0 : World) (g4 g5 : Nat) (hF : Fr11 w0 b g4 g5) (pU vU pI : Tmp) (hsU : OpAt ops sU none (.store 32 (.tmp pU) (.tmp vU))) (hsI : OpAt ops sI none (.store 43 (.tmp pI) (.tmp dI))) (cu : List Value) (eU : a.eval (.tmp pU) = .pointer (some ⟨g4, 0, none⟩)) (eV : a.eval (.tmp vU) = .agg cu.toArray) (eI : a.eval (.tmp pI) = .pointer (some ⟨g5, 0, none⟩)) (hsz : dI < a.tmps.size) (hne : dI ≠ pU ∧ dI ≠ vU ∧ dI ≠ pI)
    {c : Nat} (f : FuncId) (hpl : Plain Try.prog f) (xs : List Operand) (ts : Array TypeId) (us : List Value) (hx : xs.map a.eval = us) (hc : OpAt ops c (some dI) (.call { callee := .value (.func f), args := xs.toArray, argTypes := ts })) (hd : dep .any ops c c = false)
    (hcall : ∀ W, Later b W → Calls Try.prog f us.toArray W fun e w' => ∃ y, e = .returned (.agg y.toArray) ∧ Later W w' ∧ PdI bb n r cc am cm M T cu y w')
    (h : ∀ y W, Later w0 W → Box W g4 32 cu → Box W g5 43 y → PdI bb n r cc am cm M T cu y W → Q .normal (a.put (some dI) (.agg y.toArray)) W) : wpT Try.prog ops Q [sU, sI] [c] [] a b := by
  refine wpT_one (fun v W => ∃ y, v = .agg y.toArray ∧ PdI bb n r cc am cm M T cu y W) hd (by rintro v w w' hl ⟨y, e, hy⟩; exact ⟨y, e, hy.later hl⟩) (fun W hW => lVal_callAt hc hpl us hx ((hcall W hW).mono ?_)) ?_
  · rintro e w' ⟨y, rfl, hl, hy⟩
    exact ⟨_, rfl, hl, y, rfl, hy⟩
  · rintro v W hW ⟨y, rfl, hy⟩
    rw [hc.dst]
    exact fin_put w0 g4 g5 (hF.later hW) pU vU pI hsU hsI cu (by rw [eval_put_ne hne.1.symm, eU]) (by rw [eval_put_ne hne.2.1.symm, eV]) (by rw [eval_put_ne hne.2.2.symm, eI]) y (eval_same hsz) hy (fun W' q1 q2 q3 q4 => h y W' q1 q2 q3 q4)
/-- two operations, the second one behind the first -/
theorem wpT_two {P : Program} {ops : Array Oper} {Q : Exit → Act → World → Prop} {τ : List Nat} {a : Act} {b : World} (c1 c2 : Nat) (hne : c1 ≠ c2) (R1 : Value → World → Prop) (R2 : Value → Value → World → Prop) (hd : ([c1, c2].all fun i => ([c1, c2].filter fun k => dep .any ops i k) == (if i = c2 then [c1] else [])) = true)
    (s1 : ∀ v w w', Later w w' → R1 v w → R1 v w') (s2 : ∀ v u w w', Later w w' → R2 v u w → R2 v u w') (h1 : ∀ W, Later b W → lVal P ops c1 R1 a W) (h2 : ∀ v W, Later b W → R1 v W → lVal P ops c2 (R2 v) (a.put (dstOf ops c1) v) W)
    (h : ∀ v u W, Later b W → R2 v u W → wpL P ops Q τ ((a.put (dstOf ops c1) v).put (dstOf ops c2) u) W) : wpT P ops Q τ [c1, c2] [] a b := by
  refine wpT_bag (fun i => if i = c2 then [c1] else []) (fun i vals W => if i = c1 then R1 (vals c1) W else R2 (vals c1) (vals c2) W) hd ?_ ?_ ?_ ?_
  · intro i hi vals w w' hl hr
    by_cases e : i = c1
    · rw [if_pos e] at hr ⊢
      exact s1 _ _ _ hl hr
    · rw [if_neg e] at hr ⊢
      exact s2 _ _ _ _ hl hr
  · intro i hi k hk hki hds vals v W hr
    simp only [List.mem_cons, List.not_mem_nil, or_false] at hi hk
    rcases hi with rfl | rfl
    · rcases hk with rfl | rfl
      · exact absurd rfl hki
      · simp only [if_true] at hr ⊢
        simpa [upd, hne] using hr
    · rcases hk with rfl | rfl
      · simp at hds
      · exact absurd rfl hki
  · intro i hi vals W hW hdep
    simp only [List.mem_cons, List.not_mem_nil, or_false] at hi
    rcases hi with rfl | rfl
    · rw [if_neg hne]
      refine lVal_mono ?_ (h1 W hW)
      intro v w' _ hr
      simpa [upd] using hr
    · have q := hdep c1 (by simp)
      rw [if_pos rfl] at q
      rw [if_pos rfl]
      refine lVal_mono ?_ (h2 (vals c1) W hW q)
      intro v w' _ hr
      rw [if_neg (fun e => hne e.symm)]
      simpa [upd, hne] using hr
  · intro vals W hW hall
    have q := hall c2 (by simp)
    rw [if_neg (fun e => hne e.symm)] at q
    exact h (vals c1) (vals c2) W hW q
/-- a call, and a call of what it gives -/
theorem fin_two {ops : Array Oper} {Q : Exit → Act → World → Prop} {a : Act} {b : World} {sU sI : Nat} {dI : Tmp} {bb : World} {n : Nat} {r cc : Bool} {am : Option Addr} {cm : Nat} {M : List Sns} {T : Utt × Itt} (w0 : World) (g4 g5 : Nat) (hF : Fr11 w0 b g4 g5) (pU vU pI : Tmp) (hsU : OpAt ops sU none (.store 32 (.tmp pU) (.tmp vU))) (hsI : OpAt ops sI none (.store 43 (.tmp pI) (.tmp dI))) (cu : List Value) (eU : a.eval (.tmp pU) = .pointer (some ⟨g4, 0, none⟩)) (eV : a.eval (.tmp vU) = .agg cu.toArray) (eI : a.eval (.tmp pI) = .pointer (some ⟨g5, 0, none⟩)) (d1 : Tmp) (hs1 : d1 < a.tmps.size) (hsz : dI < a.tmps.size) (hne : (dI ≠ pU ∧ dI ≠ vU ∧ dI ≠ pI) ∧ d1 ≠ pU ∧ d1 ≠ vU ∧ d1 ≠ pI)
    {c1 c2 : Nat} (f1 : FuncId) (hp1 : Plain Try.prog f1) (xs1 : List Operand) (ts1 : Array TypeId) (us1 : List Value) (hx1 : xs1.map a.eval = us1) (hc1 : OpAt ops c1 (some d1) (.call { callee := .value (.func f1), args := xs1.toArray, argTypes := ts1 }))
    (f2 : FuncId) (hp2 : Plain Try.prog f2) (xs2 : List Operand) (ts2 : Array TypeId) (us2 : Value → List Value) (hx2 : ∀ v, xs2.map (a.put (some d1) v).eval = us2 v) (hc2 : OpAt ops c2 (some dI) (.call { callee := .value (.func f2), args := xs2.toArray, argTypes := ts2 }))
    (hcc : c1 ≠ c2) (hd : ([c1, c2].all fun i => ([c1, c2].filter fun k => dep .any ops i k) == (if i = c2 then [c1] else [])) = true)
    (R1 : Value → World → Prop) (s1 : ∀ v w w', Later w w' → R1 v w → R1 v w')
    (hcall1 : ∀ W, Later b W → Calls Try.prog f1 us1.toArray W fun e w' => ∃ v, e = .returned v ∧ Later W w' ∧ R1 v w')
    (hcall2 : ∀ v W, Later b W → R1 v W → Calls Try.prog f2 (us2 v).toArray W fun e w' => ∃ y, e = .returned (.agg y.toArray) ∧ Later W w' ∧ PdI bb n r cc am cm M T cu y w')
    (h : ∀ v y W, Later w0 W → Box W g4 32 cu → Box W g5 43 y → PdI bb n r cc am cm M T cu y W → Q .normal ((a.put (some d1) v).put (some dI) (.agg y.toArray)) W) : wpT Try.prog ops Q [sU, sI] [c1, c2] [] a b := by
  refine wpT_two c1 c2 hcc R1 (fun v u W => ∃ y, u = .agg y.toArray ∧ PdI bb n r cc am cm M T cu y W) hd s1 (by rintro v u w w' hl ⟨y, e, hy⟩; exact ⟨y, e, hy.later hl⟩) (fun W hW => lVal_callAt hc1 hp1 us1 hx1 (hcall1 W hW)) (fun v W hW hr => lVal_callAt hc2 hp2 (us2 v) (by rw [hc1.dst]; exact hx2 v) ((hcall2 v W hW hr).mono ?_)) ?_
  · rintro e w' ⟨y, rfl, hl, hy⟩
    exact ⟨_, rfl, hl, y, rfl, hy⟩
  · rintro v u W hW ⟨y, rfl, hy⟩
    rw [hc1.dst, hc2.dst]
    obtain ⟨⟨q1, q2, q3⟩, q4, q5, q6⟩ := hne
    exact fin_put w0 g4 g5 (hF.later hW) pU vU pI hsU hsI cu (by rw [eval_put_ne q1.symm, eval_put_ne q4.symm, eU]) (by rw [eval_put_ne q2.symm, eval_put_ne q5.symm, eV]) (by rw [eval_put_ne q3.symm, eval_put_ne q6.symm, eI]) y (eval_same (by rw [put_size]; exact hsz)) hy (fun W' q1 q2 q3 q4 => h v y W' q1 q2 q3 q4)
/-- a call of two results, and a call of both -/
theorem fin_ext {ops : Array Oper} {Q : Exit → Act → World → Prop} {a : Act} {b : World} {sU sI : Nat} {dI : Tmp} {bb : World} {n : Nat} {r cc : Bool} {am : Option Addr} {cm : Nat} {M : List Sns} {T : Utt × Itt} (w0 : World) (g4 g5 : Nat) (hF : Fr11 w0 b g4 g5) (pU vU pI : Tmp) (hsU : OpAt ops sU none (.store 32 (.tmp pU) (.tmp vU))) (hsI : OpAt ops sI none (.store 43 (.tmp pI) (.tmp dI))) (cu : List Value) (eU : a.eval (.tmp pU) = .pointer (some ⟨g4, 0, none⟩)) (eV : a.eval (.tmp vU) = .agg cu.toArray) (eI : a.eval (.tmp pI) = .pointer (some ⟨g5, 0, none⟩)) (d1 d2 d3 : Tmp) (hs1 : d1 < a.tmps.size) (hs2 : d2 < a.tmps.size) (hs3 : d3 < a.tmps.size) (hsz : dI < a.tmps.size) (hne : (dI ≠ pU ∧ dI ≠ vU ∧ dI ≠ pI) ∧ (d1 ≠ pU ∧ d1 ≠ vU ∧ d1 ≠ pI) ∧ (d2 ≠ pU ∧ d2 ≠ vU ∧ d2 ≠ pI) ∧ (d3 ≠ pU ∧ d3 ≠ vU ∧ d3 ≠ pI) ∧ d1 ≠ d2 ∧ d1 ≠ d3 ∧ d2 ≠ d3)
    {c1 x0 x1 c2 : Nat} (f1 : FuncId) (hp1 : Plain Try.prog f1) (xs1 : List Operand) (ts1 : Array TypeId) (us1 : List Value) (hx1 : xs1.map a.eval = us1) (hc1 : OpAt ops c1 (some d1) (.call { callee := .value (.func f1), args := xs1.toArray, argTypes := ts1 }))
    (he0 : OpAt ops x0 (some d2) (.extract (.tmp d1) 0)) (he1 : OpAt ops x1 (some d3) (.extract (.tmp d1) 1))
    (f2 : FuncId) (hp2 : Plain Try.prog f2) (ts2 : Array TypeId) (hc2 : OpAt ops c2 (some dI) (.call { callee := .value (.func f2), args := [Operand.tmp d2, .tmp d3].toArray, argTypes := ts2 }))
    (hcc : [c1, x0, x1, c2].Nodup) (hd : ([c1, x0, x1, c2].all fun i => ([c1, x0, x1, c2].filter fun k => dep .any ops i k) == (if i = c2 then [c1, x0, x1] else if i = c1 then [] else [c1])) = true)
    (z : Value) (R1 : Value → World → Prop) (s1 : ∀ v w w', Later w w' → R1 v w → R1 v w')
    (hcall1 : ∀ W, Later b W → Calls Try.prog f1 us1.toArray W fun e w' => ∃ v, e = .returned (.tuple #[v, z]) ∧ Later W w' ∧ R1 v w')
    (hcall2 : ∀ v W, Later b W → R1 v W → Calls Try.prog f2 #[v, z] W fun e w' => ∃ y, e = .returned (.agg y.toArray) ∧ Later W w' ∧ PdI bb n r cc am cm M T cu y w')
    (h : ∀ v y W, Later w0 W → Box W g4 32 cu → Box W g5 43 y → PdI bb n r cc am cm M T cu y W → Q .normal ((((a.put (some d1) (.tuple #[v, z])).put (some d2) v).put (some d3) z).put (some dI) (.agg y.toArray)) W) : wpT Try.prog ops Q [sU, sI] [c1, x0, x1, c2] [] a b := by
  simp only [List.nodup_cons, List.mem_cons, List.not_mem_nil, or_false, not_or, not_false_eq_true, List.nodup_nil, and_true] at hcc
  obtain ⟨⟨n01, n02, n03⟩, ⟨n12, n13⟩, n23⟩ := hcc
  refine wpT_bag (fun i => if i = c2 then [c1, x0, x1] else if i = c1 then [] else [c1]) (fun i vals W => if i = c1 then ∃ v, vals c1 = .tuple #[v, z] ∧ R1 v W else if i = x0 then vals c1 = .tuple #[vals x0, z] ∧ R1 (vals x0) W else if i = x1 then vals x1 = z else vals c1 = .tuple #[vals x0, z] ∧ vals x1 = z ∧ ∃ y, vals c2 = .agg y.toArray ∧ PdI bb n r cc am cm M T cu y W) hd ?_ ?_ ?_ ?_
  · intro i hi vals w w' hl hr
    by_cases e : i = c1
    · rw [if_pos e] at hr ⊢
      obtain ⟨v, q1, q2⟩ := hr
      exact ⟨v, q1, s1 _ _ _ hl q2⟩
    rw [if_neg e] at hr ⊢
    by_cases e : i = x0
    · rw [if_pos e] at hr ⊢
      exact ⟨hr.1, s1 _ _ _ hl hr.2⟩
    rw [if_neg e] at hr ⊢
    by_cases e : i = x1
    · rw [if_pos e] at hr ⊢
      exact hr
    rw [if_neg e] at hr ⊢
    obtain ⟨q1, q2, y, q3, q4⟩ := hr
    exact ⟨q1, q2, y, q3, q4.later hl⟩
  · intro i hi k hk hki hds vals v W hr
    simp only [List.mem_cons, List.not_mem_nil, or_false] at hi hk
    have m01 : ¬ x0 = c1 := fun e => n01 (Eq.symm e)
    have m02 : ¬ x1 = c1 := fun e => n02 (Eq.symm e)
    have m03 : ¬ c2 = c1 := fun e => n03 (Eq.symm e)
    have m12 : ¬ x1 = x0 := fun e => n12 (Eq.symm e)
    have m13 : ¬ c2 = x0 := fun e => n13 (Eq.symm e)
    have m23 : ¬ c2 = x1 := fun e => n23 (Eq.symm e)
    rcases hi with rfl | rfl | rfl | rfl <;> rcases hk with rfl | rfl | rfl | rfl <;> first | (exact absurd rfl hki) | (simp [n01, n02, n03, n12, n13, n23, m01, m02, m03, m12, m13, m23] at hds; done) | (simpa [upd, n01, n02, n03, n12, n13, n23, m01, m02, m03, m12, m13, m23] using hr)
  · intro i hi vals W hW hdep
    simp only [List.mem_cons, List.not_mem_nil, or_false] at hi
    have m01 : ¬ x0 = c1 := fun e => n01 (Eq.symm e)
    have m02 : ¬ x1 = c1 := fun e => n02 (Eq.symm e)
    have m03 : ¬ c2 = c1 := fun e => n03 (Eq.symm e)
    have m12 : ¬ x1 = x0 := fun e => n12 (Eq.symm e)
    have m13 : ¬ c2 = x0 := fun e => n13 (Eq.symm e)
    have m23 : ¬ c2 = x1 := fun e => n23 (Eq.symm e)
    obtain ⟨k1, k2, k3, k4, k5, k6, k7⟩ := hne
    rcases hi with rfl | rfl | rfl | rfl
    · rw [if_neg n03, if_pos rfl]
      refine lVal_callAt hc1 hp1 us1 hx1 ((hcall1 W hW).mono ?_)
      rintro e w' ⟨v, rfl, hl, hr⟩
      refine ⟨_, rfl, hl, ?_⟩
      rw [if_pos rfl]
      exact ⟨v, by simp [upd], hr⟩
    · rw [if_neg n13, if_neg m01] at hdep ⊢
      have q := hdep c1 (by simp)
      rw [if_pos rfl] at q
      obtain ⟨v, q1, q2⟩ := q
      refine lVal_extractAt he0 #[v, z] v ?_ rfl ?_
      · simp only [putAll, List.foldl, hc1.dst]
        rw [eval_same hs1, q1]
      · rw [if_neg m01, if_pos rfl]
        exact ⟨by simp [upd, n01, q1], by simpa [upd] using q2⟩
    · rw [if_neg n23, if_neg m02] at hdep ⊢
      have q := hdep c1 (by simp)
      rw [if_pos rfl] at q
      obtain ⟨v, q1, q2⟩ := q
      refine lVal_extractAt he1 #[v, z] z ?_ rfl ?_
      · simp only [putAll, List.foldl, hc1.dst]
        rw [eval_same hs1, q1]
      · rw [if_neg m02, if_neg m12, if_pos rfl]
        simp [upd]
    · rw [if_pos rfl] at hdep ⊢
      have q0 := hdep x0 (by simp)
      have q1 := hdep x1 (by simp)
      rw [if_neg m01, if_pos rfl] at q0
      rw [if_neg m02, if_neg m12, if_pos rfl] at q1
      refine lVal_callAt hc2 hp2 [vals x0, z] ?_ ((hcall2 (vals x0) W hW q0.2).mono ?_)
      · simp only [putAll, List.foldl, hc1.dst, he0.dst, he1.dst, List.map]
        rw [eval_put_ne k7, eval_same (by simp only [put_size]; exact hs2), eval_same (by simp only [put_size]; exact hs3), q1]
      · rintro e w' ⟨y, rfl, hl, hy⟩
        refine ⟨_, rfl, hl, ?_⟩
        rw [if_neg m03, if_neg m13, if_neg m23]
        exact ⟨by simp [upd, n03, n13, q0.1], by simp [upd, n23, q1], y, by simp [upd], hy⟩
  · intro vals W hW hall
    have m03 : ¬ c2 = c1 := fun e => n03 (Eq.symm e)
    have m13 : ¬ c2 = x0 := fun e => n13 (Eq.symm e)
    have m23 : ¬ c2 = x1 := fun e => n23 (Eq.symm e)
    have q := hall c2 (by simp)
    rw [if_neg m03, if_neg m13, if_neg m23] at q
    obtain ⟨q1, q2, y, q3, q4⟩ := q
    simp only [putAll, List.foldl, hc1.dst, he0.dst, he1.dst, hc2.dst]
    rw [q1, q2, q3]
    obtain ⟨⟨a1, a2, a3⟩, ⟨b1, b2, b3⟩, ⟨d1', d2', d3'⟩, ⟨f1', f2', f3'⟩, _⟩ := hne
    exact fin_put w0 g4 g5 (hF.later hW) pU vU pI hsU hsI cu (by rw [eval_put_ne a1.symm, eval_put_ne f1'.symm, eval_put_ne d1'.symm, eval_put_ne b1.symm, eU]) (by rw [eval_put_ne a2.symm, eval_put_ne f2'.symm, eval_put_ne d2'.symm, eval_put_ne b2.symm, eV]) (by rw [eval_put_ne a3.symm, eval_put_ne f3'.symm, eval_put_ne d3'.symm, eval_put_ne b3.symm, eI]) y (eval_same (by simp only [put_size]; exact hsz)) q4 (fun W' q1 q2 q3 q4 => h _ y W' q1 q2 q3 q4)
end Go.Proofs.Ytmelkgmbiiobgaa

namespace Go.Proofs.Ytmelkgmbiiobgaa
open Go.ChangeShapes Go.WideShapes Go.ChangeAt Go.RowKit
set_option linter.unusedVariables false
set_option maxRecDepth 4000
set_option linter.unusedSimpArgs false
/-! The landed capacity. -/
set_option maxHeartbeats 1000000 in
theorem told9_c (b : Int) (m : Nat) (hm : 1 ≤ m ∧ m ≤ 8) (w : World) : Calls Try.prog 93 #[.int .i64 b, .int .i64 m] w fun e w' => ∃ v, e = .returned v ∧ Later w w' ∧ w'.ownsRow w.heap.size 5 1 v (m + 4) (bv (putBeI (lastN b) m ++ sz64)) := by
  have hx := lastN_eq b
  have hx2 := lastN_le b
  generalize lastN b = x at *
  have HX2 := hide hx2
  have HM := hide hm
  have HLn : Hid ((putBeI x (m : Int)).length = m) := by
    rw [Hid, putBeI, if_pos (by simp [isW]; omega), putBe_length]; rfl
  clear hx2 hm
  go_enter Try.func93, Try.ntmps93
  go_wp2_with fail
  refine (putBig_c x m _ _ (Nat.le_refl _) HX2.out).mono ?_
  rintro e w2 ⟨v2, rfl, hl, ho⟩
  have L2 : Hid (Later w w2) := hl
  rw [HLn.out] at ho
  have O2 := hide ho
  clear ho hl
  go_wp2_with fail
  refine (putBig_c 64 4 _ _ (Nat.le_refl _) (by decide)).mono ?_
  rintro e w3 ⟨v3, rfl, hl, ho⟩
  replace O2 := hide (owns_later O2.out hl)
  have L3 := hide (L2.out.trans hl)
  rw [show putBeI 64 4 = sz64 by decide] at ho
  have V3 := hide (Bs.of_owns ho).1
  clear ho hl L2
  go_wp2_with (at_builtin; refine wpList_append_bs rfl (.tmp 11) (.tmp 12) rfl w.heap.size v2 m _ rfl O2.out v3 sz64 rfl V3.out (by have := HM.out; simp [sz64]; omega) L3.out.size w L3.out ?_)
  intro v4 w4 ho hb hg
  have O4 := hide ho
  have L4 : Hid (Later w w4) := hb
  clear ho hb hg
  go_wp2
  go_ret
  exact ⟨_, rfl, L4.out, O4.out⟩
theorem ten9_c (b : Int) (w : World) : Calls Try.prog 67 #[.int .i64 b] w fun e w' => ∃ v, e = .returned v ∧ Later w w' ∧ Bs w' v (tenL b) := by
  go_enter Try.func67, Try.ntmps67
  go_wp2_with fail
  refine (told9_c b 4 (by decide) _).mono ?_
  rintro e w2 ⟨v2, rfl, hl, ho⟩
  have V2 : Hid (Bs w2 v2 (tenL b)) := (Bs.of_owns ho).1
  have L2 := hide hl
  clear hl ho
  go_wp2
  go_ret
  exact ⟨_, rfl, L2.out, V2.out⟩
set_option maxHeartbeats 1000000 in
theorem six9_c (b n : Int) (hn : In64 n) (w : World) : Calls Try.prog 68 #[.int .i64 b, .int .i64 n] w fun e w' => ∃ v, e = .returned v ∧ Later w w' ∧ Bs w' v (cutL (sixL b) n) := by
  have HN := hide hn
  clear hn
  go_enter Try.func68, Try.ntmps68
  go_wp2_with fail
  refine (told9_c b 8 (by decide) _).mono ?_
  rintro e w2 ⟨v2, rfl, hl, ho⟩
  obtain ⟨g2, c2, rfl⟩ := owns_slice ho (by decide)
  have O2 := hide ho
  have L2 := hide hl
  clear hl ho
  go_wp2_with (at_builtin; refine wpList_append_zk 20 (by decide) (by decide) rfl (.tmp 6) rfl w.heap.size g2 12 c2 _ rfl O2.out (by decide) L2.out.size w L2.out ?_)
  intro v3 w3 ho hb
  have V3 : Hid (Bs w3 v3 (sixL b)) := by have h := (Bs.of_owns ho).1; first | exact h | (rw [List.append_assoc] at h; exact h)
  have L3 : Hid (Later w w3) := hb
  clear ho hb
  go_wp2_with fail
  refine (cut7_c _ _ n _ V3.out (by rw [sixL_len]; decide) HN.out).mono ?_
  rintro e w6 ⟨v6, rfl, hl, hv⟩
  have V6 := hide hv
  have L6 := hide (L3.out.trans hl)
  clear hl hv
  go_wp2
  go_ret
  exact ⟨_, rfl, L6.out, V6.out⟩
theorem run_make8 (w : World) : (Instr.makeSlice 39 (.int .i64 8) (.int .i64 8)).run Try.prog w = .ok (.slice (some ⟨w.heap.size, 0, none⟩) 8 8) (w.alloc (.cells #[.int .u8 0, .int .u8 0, .int .u8 0, .int .u8 0, .int .u8 0, .int .u8 0, .int .u8 0, .int .u8 0] 5)) := by
  have := run_make_row' (P := Try.prog) 39 5 (.int .u8 0) 1 Try.underlying39 Try.info_u8 rfl .i64 .i64 8 (by decide) (by decide) w
  rw [show madeCells #[Value.int .u8 0] 8 = #[.int .u8 0, .int .u8 0, .int .u8 0, .int .u8 0, .int .u8 0, .int .u8 0, .int .u8 0, .int .u8 0] from by apply Array.toList_inj.1; rw [show (#[Value.int .u8 0] : Array Value) = Array.replicate 1 (.int .u8 0) from rfl, madeCells_rep _ 1 8 (by decide)]; rfl] at this
  exact this
set_option maxHeartbeats 1000000 in
theorem entry9_c (i : Nat) (w : World) : Calls Try.prog 60 #[.int .i64 i] w fun e w' => ∃ v, e = .returned v ∧ Later w w' ∧ Bs w' v (entL i) := by
  have hmk := run_make8
  go_enter Try.func60, Try.ntmps60
  go_wp2
  go_ret
  refine ⟨_, rfl, (Later.refl w).alloc _, ?_⟩
  refine bs_of_box (Box.new' _ _ _ _ rfl _ (by simp)) ?_ rfl (by decide)
  simp [bv, entL]
set_option maxHeartbeats 2000000 in
theorem luns9_c (k n : Int) (hn : In64 n) (w : World) : Calls Try.prog 30 #[.int .i64 k, .int .i64 n] w fun e w' => ∃ v, e = .returned v ∧ Later w w' ∧ Bs w' v (cutL (lunsL (cntN k)) n) := by
  have HN := hide hn
  clear hn
  by_cases h4 : 4 < k
  · have hb0 : (if k < 0 then 0 else k) = k := by rw [if_neg (by omega)]
    have hb4 : (if k < 4 then k else 4) = 4 := by rw [if_neg (by omega)]
    rw [show cntN k = 4 by unfold cntN; rw [if_pos h4]]
    have h4' : ¬ k ≤ 4 := by omega
    go_enter Try.func30, Try.ntmps30
    go_wp2_with fail
    refine (putBig_c 32 4 _ _ (Nat.le_refl _) (by decide)).mono ?_
    rintro e w2 ⟨v2, rfl, hl, ho⟩
    rw [show putBeI 32 4 = [0, 0, 0, 32] by decide] at ho
    obtain ⟨g2, c2, rfl⟩ := owns_slice ho (by decide)
    have O2 := hide ho
    have L2 : Hid (Later w w2) := hl
    clear hl ho
    go_wp2_with (at_builtin; refine wpList_append_zk 4 (by decide) (by decide) rfl (.tmp 15) rfl w.heap.size g2 4 c2 _ rfl O2.out (by decide) L2.out.size w L2.out ?_)
    intro v3 w3 ho hb
    have HO : Hid (w3.ownsRow w.heap.size 5 1 v3 (8 + 8 * 0) (bv (headL 4 ++ entsL 0))) := ho
    have HL : Hid (Later w w3) := hb
    clear ho hb O2 L2
    go_wp2_with fail
    go_loopw [6, 18] (fun v i wr => ∃ q : Nat, q ≤ 4 ∧ i = .int .i64 q ∧ Hid (wr.ownsRow w.heap.size 5 1 v (8 + 8 * q) (bv (headL 4 ++ entsL q))) ∧ Hid (Later w wr)) (fun _ i _ => 4 - (intOf i).toNat)
    case atStart => exact ⟨0, by omega, rfl, HO, HL⟩
    case round =>
      clear HO HL
      obtain ⟨q, hq, rfl, HO, HL⟩ := hrel
      by_cases hlt : q < 4
      · go_wp2_with fail
        refine (entry9_c q _).mono ?_
        rintro e w4 ⟨v4, rfl, hl, hv⟩
        replace HO := hide (owns_later HO.out hl)
        replace HL := hide (HL.out.trans hl)
        have V4 := hide hv
        clear hl hv
        go_wp2_with (at_builtin; refine wpList_append_bs rfl (.tmp 21) (.tmp 23) rfl w.heap.size _ (8 + 8 * q) _ rfl HO.out _ (entL q) rfl V4.out (by simp [entL]; omega) HL.out.size w HL.out ?_)
        intro v' w' ho' hb' hg'
        have R : Hid (w'.ownsRow w.heap.size 5 1 v' (8 + 8 * (q + 1)) (bv (headL 4 ++ entsL (q + 1)))) := by rw [entsL]; first | exact ho' | (rw [← List.append_assoc]; exact ho')
        have RL : Hid (Later w w') := hb'
        clear ho' hb' hg' HO HL V4
        go_wp2
        go_roundw
        case rel => exact ⟨q + 1, by omega, by go_num, R, RL⟩
        case measure => simp [intOf]; omega
      · have hqn : Hid (q = 4) := by unfold Hid; omega
        have VB : Hid (Bs wr u6 (lunsL 4)) := by
          have := (Bs.of_owns HO.out).1
          rw [hqn.out] at this
          exact this
        clear HO
        go_wp2_with fail
        refine (cut7_c _ _ n _ VB.out (by rw [lunsL_len]; omega) HN.out).mono ?_
        rintro e w6 ⟨v6, rfl, hl, hv⟩
        have V6 := hide hv
        have L6 := hide (HL.out.trans hl)
        clear hl hv
        go_wp2
        go_ret
        exact ⟨_, rfl, L6.out, V6.out⟩
  by_cases h0 : k < 0
  · have hb0 : (if k < 0 then 0 else k) = 0 := by rw [if_pos h0]
    rw [show cntN k = 0 by unfold cntN; rw [if_neg h4, if_pos h0]]
    have h0' : k ≤ 4 := by omega
    go_enter Try.func30, Try.ntmps30
    go_wp2_with fail
    refine (putBig_c 0 4 _ _ (Nat.le_refl _) (by decide)).mono ?_
    rintro e w2 ⟨v2, rfl, hl, ho⟩
    rw [show putBeI 0 4 = [0, 0, 0, 0] by decide] at ho
    obtain ⟨g2, c2, rfl⟩ := owns_slice ho (by decide)
    have O2 := hide ho
    have L2 : Hid (Later w w2) := hl
    clear hl ho
    go_wp2_with (at_builtin; refine wpList_append_zk 4 (by decide) (by decide) rfl (.tmp 15) rfl w.heap.size g2 4 c2 _ rfl O2.out (by decide) L2.out.size w L2.out ?_)
    intro v3 w3 ho hb
    have HO : Hid (w3.ownsRow w.heap.size 5 1 v3 (8 + 8 * 0) (bv (headL 0 ++ entsL 0))) := ho
    have HL : Hid (Later w w3) := hb
    clear ho hb O2 L2
    go_wp2_with fail
    go_loopw [6, 18] (fun v i wr => ∃ q : Nat, q ≤ 0 ∧ i = .int .i64 q ∧ Hid (wr.ownsRow w.heap.size 5 1 v (8 + 8 * q) (bv (headL 0 ++ entsL q))) ∧ Hid (Later w wr)) (fun _ i _ => 0 - (intOf i).toNat)
    case atStart => exact ⟨0, by omega, rfl, HO, HL⟩
    case round =>
      clear HO HL
      obtain ⟨q, hq, rfl, HO, HL⟩ := hrel
      by_cases hlt : q < 0
      · omega
      · have hqn : Hid (q = 0) := by unfold Hid; omega
        have VB : Hid (Bs wr u6 (lunsL 0)) := by
          have := (Bs.of_owns HO.out).1
          rw [hqn.out] at this
          exact this
        clear HO
        go_wp2_with fail
        refine (cut7_c _ _ n _ VB.out (by rw [lunsL_len]; omega) HN.out).mono ?_
        rintro e w6 ⟨v6, rfl, hl, hv⟩
        have V6 := hide hv
        have L6 := hide (HL.out.trans hl)
        clear hl hv
        go_wp2
        go_ret
        exact ⟨_, rfl, L6.out, V6.out⟩
  obtain ⟨c, rfl⟩ : ∃ c : Nat, k = c := ⟨k.toNat, by omega⟩
  rw [show cntN (c : Int) = c by unfold cntN; rw [if_neg h4, if_neg h0]; omega]
  rcases (show c = 0 ∨ c = 1 ∨ c = 2 ∨ c = 3 ∨ c = 4 by omega) with rfl | rfl | rfl | rfl | rfl
  · go_enter Try.func30, Try.ntmps30
    go_wp2_with fail
    refine (putBig_c 0 4 _ _ (Nat.le_refl _) (by decide)).mono ?_
    rintro e w2 ⟨v2, rfl, hl, ho⟩
    rw [show putBeI 0 4 = [0, 0, 0, 0] by decide] at ho
    obtain ⟨g2, c2, rfl⟩ := owns_slice ho (by decide)
    have O2 := hide ho
    have L2 : Hid (Later w w2) := hl
    clear hl ho
    go_wp2_with (at_builtin; refine wpList_append_zk 4 (by decide) (by decide) rfl (.tmp 15) rfl w.heap.size g2 4 c2 _ rfl O2.out (by decide) L2.out.size w L2.out ?_)
    intro v3 w3 ho hb
    have HO : Hid (w3.ownsRow w.heap.size 5 1 v3 (8 + 8 * 0) (bv (headL 0 ++ entsL 0))) := ho
    have HL : Hid (Later w w3) := hb
    clear ho hb O2 L2
    go_wp2_with fail
    go_loopw [6, 18] (fun v i wr => ∃ q : Nat, q ≤ 0 ∧ i = .int .i64 q ∧ Hid (wr.ownsRow w.heap.size 5 1 v (8 + 8 * q) (bv (headL 0 ++ entsL q))) ∧ Hid (Later w wr)) (fun _ i _ => 0 - (intOf i).toNat)
    case atStart => exact ⟨0, by omega, rfl, HO, HL⟩
    case round =>
      clear HO HL
      obtain ⟨q, hq, rfl, HO, HL⟩ := hrel
      by_cases hlt : q < 0
      · omega
      · have hqn : Hid (q = 0) := by unfold Hid; omega
        have VB : Hid (Bs wr u6 (lunsL 0)) := by
          have := (Bs.of_owns HO.out).1
          rw [hqn.out] at this
          exact this
        clear HO
        go_wp2_with fail
        refine (cut7_c _ _ n _ VB.out (by rw [lunsL_len]; omega) HN.out).mono ?_
        rintro e w6 ⟨v6, rfl, hl, hv⟩
        have V6 := hide hv
        have L6 := hide (HL.out.trans hl)
        clear hl hv
        go_wp2
        go_ret
        exact ⟨_, rfl, L6.out, V6.out⟩
  · go_enter Try.func30, Try.ntmps30
    go_wp2_with fail
    refine (putBig_c 8 4 _ _ (Nat.le_refl _) (by decide)).mono ?_
    rintro e w2 ⟨v2, rfl, hl, ho⟩
    rw [show putBeI 8 4 = [0, 0, 0, 8] by decide] at ho
    obtain ⟨g2, c2, rfl⟩ := owns_slice ho (by decide)
    have O2 := hide ho
    have L2 : Hid (Later w w2) := hl
    clear hl ho
    go_wp2_with (at_builtin; refine wpList_append_zk 4 (by decide) (by decide) rfl (.tmp 15) rfl w.heap.size g2 4 c2 _ rfl O2.out (by decide) L2.out.size w L2.out ?_)
    intro v3 w3 ho hb
    have HO : Hid (w3.ownsRow w.heap.size 5 1 v3 (8 + 8 * 0) (bv (headL 1 ++ entsL 0))) := ho
    have HL : Hid (Later w w3) := hb
    clear ho hb O2 L2
    go_wp2_with fail
    go_loopw [6, 18] (fun v i wr => ∃ q : Nat, q ≤ 1 ∧ i = .int .i64 q ∧ Hid (wr.ownsRow w.heap.size 5 1 v (8 + 8 * q) (bv (headL 1 ++ entsL q))) ∧ Hid (Later w wr)) (fun _ i _ => 1 - (intOf i).toNat)
    case atStart => exact ⟨0, by omega, rfl, HO, HL⟩
    case round =>
      clear HO HL
      obtain ⟨q, hq, rfl, HO, HL⟩ := hrel
      by_cases hlt : q < 1
      · go_wp2_with fail
        refine (entry9_c q _).mono ?_
        rintro e w4 ⟨v4, rfl, hl, hv⟩
        replace HO := hide (owns_later HO.out hl)
        replace HL := hide (HL.out.trans hl)
        have V4 := hide hv
        clear hl hv
        go_wp2_with (at_builtin; refine wpList_append_bs rfl (.tmp 21) (.tmp 23) rfl w.heap.size _ (8 + 8 * q) _ rfl HO.out _ (entL q) rfl V4.out (by simp [entL]; omega) HL.out.size w HL.out ?_)
        intro v' w' ho' hb' hg'
        have R : Hid (w'.ownsRow w.heap.size 5 1 v' (8 + 8 * (q + 1)) (bv (headL 1 ++ entsL (q + 1)))) := by rw [entsL]; first | exact ho' | (rw [← List.append_assoc]; exact ho')
        have RL : Hid (Later w w') := hb'
        clear ho' hb' hg' HO HL V4
        go_wp2
        go_roundw
        case rel => exact ⟨q + 1, by omega, by go_num, R, RL⟩
        case measure => simp [intOf]; omega
      · have hqn : Hid (q = 1) := by unfold Hid; omega
        have VB : Hid (Bs wr u6 (lunsL 1)) := by
          have := (Bs.of_owns HO.out).1
          rw [hqn.out] at this
          exact this
        clear HO
        go_wp2_with fail
        refine (cut7_c _ _ n _ VB.out (by rw [lunsL_len]; omega) HN.out).mono ?_
        rintro e w6 ⟨v6, rfl, hl, hv⟩
        have V6 := hide hv
        have L6 := hide (HL.out.trans hl)
        clear hl hv
        go_wp2
        go_ret
        exact ⟨_, rfl, L6.out, V6.out⟩
  · go_enter Try.func30, Try.ntmps30
    go_wp2_with fail
    refine (putBig_c 16 4 _ _ (Nat.le_refl _) (by decide)).mono ?_
    rintro e w2 ⟨v2, rfl, hl, ho⟩
    rw [show putBeI 16 4 = [0, 0, 0, 16] by decide] at ho
    obtain ⟨g2, c2, rfl⟩ := owns_slice ho (by decide)
    have O2 := hide ho
    have L2 : Hid (Later w w2) := hl
    clear hl ho
    go_wp2_with (at_builtin; refine wpList_append_zk 4 (by decide) (by decide) rfl (.tmp 15) rfl w.heap.size g2 4 c2 _ rfl O2.out (by decide) L2.out.size w L2.out ?_)
    intro v3 w3 ho hb
    have HO : Hid (w3.ownsRow w.heap.size 5 1 v3 (8 + 8 * 0) (bv (headL 2 ++ entsL 0))) := ho
    have HL : Hid (Later w w3) := hb
    clear ho hb O2 L2
    go_wp2_with fail
    go_loopw [6, 18] (fun v i wr => ∃ q : Nat, q ≤ 2 ∧ i = .int .i64 q ∧ Hid (wr.ownsRow w.heap.size 5 1 v (8 + 8 * q) (bv (headL 2 ++ entsL q))) ∧ Hid (Later w wr)) (fun _ i _ => 2 - (intOf i).toNat)
    case atStart => exact ⟨0, by omega, rfl, HO, HL⟩
    case round =>
      clear HO HL
      obtain ⟨q, hq, rfl, HO, HL⟩ := hrel
      by_cases hlt : q < 2
      · go_wp2_with fail
        refine (entry9_c q _).mono ?_
        rintro e w4 ⟨v4, rfl, hl, hv⟩
        replace HO := hide (owns_later HO.out hl)
        replace HL := hide (HL.out.trans hl)
        have V4 := hide hv
        clear hl hv
        go_wp2_with (at_builtin; refine wpList_append_bs rfl (.tmp 21) (.tmp 23) rfl w.heap.size _ (8 + 8 * q) _ rfl HO.out _ (entL q) rfl V4.out (by simp [entL]; omega) HL.out.size w HL.out ?_)
        intro v' w' ho' hb' hg'
        have R : Hid (w'.ownsRow w.heap.size 5 1 v' (8 + 8 * (q + 1)) (bv (headL 2 ++ entsL (q + 1)))) := by rw [entsL]; first | exact ho' | (rw [← List.append_assoc]; exact ho')
        have RL : Hid (Later w w') := hb'
        clear ho' hb' hg' HO HL V4
        go_wp2
        go_roundw
        case rel => exact ⟨q + 1, by omega, by go_num, R, RL⟩
        case measure => simp [intOf]; omega
      · have hqn : Hid (q = 2) := by unfold Hid; omega
        have VB : Hid (Bs wr u6 (lunsL 2)) := by
          have := (Bs.of_owns HO.out).1
          rw [hqn.out] at this
          exact this
        clear HO
        go_wp2_with fail
        refine (cut7_c _ _ n _ VB.out (by rw [lunsL_len]; omega) HN.out).mono ?_
        rintro e w6 ⟨v6, rfl, hl, hv⟩
        have V6 := hide hv
        have L6 := hide (HL.out.trans hl)
        clear hl hv
        go_wp2
        go_ret
        exact ⟨_, rfl, L6.out, V6.out⟩
  · go_enter Try.func30, Try.ntmps30
    go_wp2_with fail
    refine (putBig_c 24 4 _ _ (Nat.le_refl _) (by decide)).mono ?_
    rintro e w2 ⟨v2, rfl, hl, ho⟩
    rw [show putBeI 24 4 = [0, 0, 0, 24] by decide] at ho
    obtain ⟨g2, c2, rfl⟩ := owns_slice ho (by decide)
    have O2 := hide ho
    have L2 : Hid (Later w w2) := hl
    clear hl ho
    go_wp2_with (at_builtin; refine wpList_append_zk 4 (by decide) (by decide) rfl (.tmp 15) rfl w.heap.size g2 4 c2 _ rfl O2.out (by decide) L2.out.size w L2.out ?_)
    intro v3 w3 ho hb
    have HO : Hid (w3.ownsRow w.heap.size 5 1 v3 (8 + 8 * 0) (bv (headL 3 ++ entsL 0))) := ho
    have HL : Hid (Later w w3) := hb
    clear ho hb O2 L2
    go_wp2_with fail
    go_loopw [6, 18] (fun v i wr => ∃ q : Nat, q ≤ 3 ∧ i = .int .i64 q ∧ Hid (wr.ownsRow w.heap.size 5 1 v (8 + 8 * q) (bv (headL 3 ++ entsL q))) ∧ Hid (Later w wr)) (fun _ i _ => 3 - (intOf i).toNat)
    case atStart => exact ⟨0, by omega, rfl, HO, HL⟩
    case round =>
      clear HO HL
      obtain ⟨q, hq, rfl, HO, HL⟩ := hrel
      by_cases hlt : q < 3
      · go_wp2_with fail
        refine (entry9_c q _).mono ?_
        rintro e w4 ⟨v4, rfl, hl, hv⟩
        replace HO := hide (owns_later HO.out hl)
        replace HL := hide (HL.out.trans hl)
        have V4 := hide hv
        clear hl hv
        go_wp2_with (at_builtin; refine wpList_append_bs rfl (.tmp 21) (.tmp 23) rfl w.heap.size _ (8 + 8 * q) _ rfl HO.out _ (entL q) rfl V4.out (by simp [entL]; omega) HL.out.size w HL.out ?_)
        intro v' w' ho' hb' hg'
        have R : Hid (w'.ownsRow w.heap.size 5 1 v' (8 + 8 * (q + 1)) (bv (headL 3 ++ entsL (q + 1)))) := by rw [entsL]; first | exact ho' | (rw [← List.append_assoc]; exact ho')
        have RL : Hid (Later w w') := hb'
        clear ho' hb' hg' HO HL V4
        go_wp2
        go_roundw
        case rel => exact ⟨q + 1, by omega, by go_num, R, RL⟩
        case measure => simp [intOf]; omega
      · have hqn : Hid (q = 3) := by unfold Hid; omega
        have VB : Hid (Bs wr u6 (lunsL 3)) := by
          have := (Bs.of_owns HO.out).1
          rw [hqn.out] at this
          exact this
        clear HO
        go_wp2_with fail
        refine (cut7_c _ _ n _ VB.out (by rw [lunsL_len]; omega) HN.out).mono ?_
        rintro e w6 ⟨v6, rfl, hl, hv⟩
        have V6 := hide hv
        have L6 := hide (HL.out.trans hl)
        clear hl hv
        go_wp2
        go_ret
        exact ⟨_, rfl, L6.out, V6.out⟩
  · go_enter Try.func30, Try.ntmps30
    go_wp2_with fail
    refine (putBig_c 32 4 _ _ (Nat.le_refl _) (by decide)).mono ?_
    rintro e w2 ⟨v2, rfl, hl, ho⟩
    rw [show putBeI 32 4 = [0, 0, 0, 32] by decide] at ho
    obtain ⟨g2, c2, rfl⟩ := owns_slice ho (by decide)
    have O2 := hide ho
    have L2 : Hid (Later w w2) := hl
    clear hl ho
    go_wp2_with (at_builtin; refine wpList_append_zk 4 (by decide) (by decide) rfl (.tmp 15) rfl w.heap.size g2 4 c2 _ rfl O2.out (by decide) L2.out.size w L2.out ?_)
    intro v3 w3 ho hb
    have HO : Hid (w3.ownsRow w.heap.size 5 1 v3 (8 + 8 * 0) (bv (headL 4 ++ entsL 0))) := ho
    have HL : Hid (Later w w3) := hb
    clear ho hb O2 L2
    go_wp2_with fail
    go_loopw [6, 18] (fun v i wr => ∃ q : Nat, q ≤ 4 ∧ i = .int .i64 q ∧ Hid (wr.ownsRow w.heap.size 5 1 v (8 + 8 * q) (bv (headL 4 ++ entsL q))) ∧ Hid (Later w wr)) (fun _ i _ => 4 - (intOf i).toNat)
    case atStart => exact ⟨0, by omega, rfl, HO, HL⟩
    case round =>
      clear HO HL
      obtain ⟨q, hq, rfl, HO, HL⟩ := hrel
      by_cases hlt : q < 4
      · go_wp2_with fail
        refine (entry9_c q _).mono ?_
        rintro e w4 ⟨v4, rfl, hl, hv⟩
        replace HO := hide (owns_later HO.out hl)
        replace HL := hide (HL.out.trans hl)
        have V4 := hide hv
        clear hl hv
        go_wp2_with (at_builtin; refine wpList_append_bs rfl (.tmp 21) (.tmp 23) rfl w.heap.size _ (8 + 8 * q) _ rfl HO.out _ (entL q) rfl V4.out (by simp [entL]; omega) HL.out.size w HL.out ?_)
        intro v' w' ho' hb' hg'
        have R : Hid (w'.ownsRow w.heap.size 5 1 v' (8 + 8 * (q + 1)) (bv (headL 4 ++ entsL (q + 1)))) := by rw [entsL]; first | exact ho' | (rw [← List.append_assoc]; exact ho')
        have RL : Hid (Later w w') := hb'
        clear ho' hb' hg' HO HL V4
        go_wp2
        go_roundw
        case rel => exact ⟨q + 1, by omega, by go_num, R, RL⟩
        case measure => simp [intOf]; omega
      · have hqn : Hid (q = 4) := by unfold Hid; omega
        have VB : Hid (Bs wr u6 (lunsL 4)) := by
          have := (Bs.of_owns HO.out).1
          rw [hqn.out] at this
          exact this
        clear HO
        go_wp2_with fail
        refine (cut7_c _ _ n _ VB.out (by rw [lunsL_len]; omega) HN.out).mono ?_
        rintro e w6 ⟨v6, rfl, hl, hv⟩
        have V6 := hide hv
        have L6 := hide (HL.out.trans hl)
        clear hl hv
        go_wp2
        go_ret
        exact ⟨_, rfl, L6.out, V6.out⟩
end Go.Proofs.Ytmelkgmbiiobgaa

namespace Go.Proofs.Ytmelkgmbiiobgaa
open Go.ChangeShapes Go.WideShapes Go.ChangeAt Go.RowKit
set_option linter.unusedVariables false
set_option maxRecDepth 4000
set_option linter.unusedSimpArgs false
/-! What is asked of the landed mode. -/
def IPage8 : Prop := ∀ (page which : Int) (caching : Bool), In64 page → In64 which → MPag 57 page which caching
def IAns8 : Prop := ∀ (c : Cmd) (caching protect : Bool) (w : World), OkC7 c → Calls Try.prog 29 #[cval c, .bool caching, .bool protect] w fun e w' => ∃ v, e = .returned (.tuple #[v, sval (mansR c caching protect).2]) ∧ Later w w' ∧ Bs w' v (mansR c caching protect).1
end Go.Proofs.Ytmelkgmbiiobgaa

namespace Go.Proofs.Ytmelkgmbiiobgaa
open Go.ChangeShapes Go.WideShapes Go.ChangeAt Go.RowKit
set_option linter.unusedVariables false
set_option maxRecDepth 4000
set_option linter.unusedSimpArgs false
theorem cutL_all (l : List UInt8) (n : Int) (h0 : 0 ≤ n) (h : (l.length : Int) ≤ n) : cutL l n = l := by
  unfold cutL
  rw [if_neg (by omega), List.take_of_length_le (by omega)]
theorem cutL_len8 (l : List UInt8) (n : Int) : (cutL l n).length ≤ l.length ∧ l.take (cutL l n).length = cutL l n ∧ ((cutL l n).length = l.length ∨ ((cutL l n).length : Int) = if n < 0 then 0 else n) := by
  unfold cutL
  by_cases h : n < 0
  · rw [if_pos h, if_pos h]; simp
  · rw [if_neg h, if_neg h]
    refine ⟨by rw [List.length_take]; omega, ?_, ?_⟩
    · rw [List.length_take]
      by_cases h2 : n.toNat ≤ l.length
      · rw [Nat.min_eq_left h2]
      · rw [Nat.min_eq_right (by omega), List.take_of_length_le (Nat.le_refl _), List.take_of_length_le (by omega)]
    · rw [List.length_take]; omega
theorem mans_cut (op : Int) (at_ : Nat) (n pg bt : Int) (caching protect : Bool) : ∃ B s, B.length ≤ 1000 ∧ mansR (op, at_, n, pg, bt) caching protect = (cutL B n, s) ∧ mansR (op, at_, 1000, pg, bt) caching protect = (B, s) := by
  have h0 : cutL [] n = [] := by unfold cutL; split <;> simp
  unfold mansR
  simp only
  by_cases h1 : op ≠ 26 ∧ op ≠ 90
  · exact ⟨[], (5, 36, 0), by simp, by rw [if_pos h1, h0], by rw [if_pos h1]⟩
  by_cases h2 : bt = 3
  · exact ⟨[], (5, 57, 0), by simp, by rw [if_neg h1, if_pos h2, h0], by rw [if_neg h1, if_pos h2]⟩
  by_cases h3 : mpB pg = false
  · exact ⟨[], (5, 36, 0), by simp, by rw [if_neg h1, if_neg h2, if_pos h3, h0], by rw [if_neg h1, if_neg h2, if_pos h3]⟩
  have hl := mpL_len pg bt caching
  generalize mpL pg bt caching = L at *
  have hL : (mhead op L.length protect ++ L).length ≤ 40 := by
    rw [List.length_append]
    have : (mhead op L.length protect).length ≤ 8 := by unfold mhead; split <;> simp
    omega
  refine ⟨mhead op L.length protect ++ L, (0, 0, 0), by omega, by rw [if_neg h1, if_neg h2, if_neg h3], ?_⟩
  rw [if_neg h1, if_neg h2, if_neg h3, cutL_all _ 1000 (by omega) (by omega)]
end Go.Proofs.Ytmelkgmbiiobgaa
