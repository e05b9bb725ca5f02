import Derived.Deep.Onto
import Derived.Test.YtoflkbilkkfekaaMAG
import Derived.Test.YtoflkbilkkfekaaMAH
namespace Go.Proofs.Ytoflkbilkkfekaa
open Go Go.RowKit
set_option linter.unusedVariables false
set_option linter.unusedSimpArgs false

/-! A region that draws its order and stores into memory that is younger than b0: operations that give the same value in every world later than b0 are taken first, wherever the stores stand; a store is taken where it alone may come up. -/
section
variable {P : Program} {ops : Array Oper} {md : Region.Mode} {b0 : World}

def Oper.keepUpon (P : Program) (b0 : World) (o : Oper) (a : Act) (w : World) (K : Act → World → Prop) : Result Next → Prop
  | .ok (.value u) w' => Later b0 w' ∧ K (a.put o.dst u) w'
  | .ok .skip w' => Later b0 w' ∧ K (a.put o.dst undef) w'
  | .ok (.enter f args) w' => w' = w ∧ Calls P f args w (fun e w'' => ∃ u, e = .returned u ∧ Later b0 w'' ∧ K (a.put o.dst u) w'')
  | _ => False
def kOp (P : Program) (ops : Array Oper) (b0 : World) (i : Nat) (K : Act → World → Prop) (a : Act) (w : World) : Prop :=
  match ops[i]? with
  | none => False
  | some o => if Region.wanted o (yielded ops a.tmps) then Oper.keepUpon P b0 o a w K ((execOp a.eval o).run P w) else K (a.put o.dst undef) w

theorem Oper.keepUpon_mono {o : Oper} {a : Act} {w : World} {K K' : Act → World → Prop} (h : ∀ a w', Later b0 w' → K a w' → K' a w') : ∀ r, Oper.keepUpon P b0 o a w K r → Oper.keepUpon P b0 o a w K' r
  | .ok (.value u) w', hh => ⟨hh.1, h _ _ hh.1 hh.2⟩
  | .ok .skip w', hh => ⟨hh.1, h _ _ hh.1 hh.2⟩
  | .ok (.enter f args) w', hh => ⟨hh.1, hh.2.mono fun e w'' ⟨u, he, hl, hk⟩ => ⟨u, he, hl, h _ _ hl hk⟩⟩
  | .ok (.defer _) _, hh => hh.elim
  | .ok (.row _ _) _, hh => hh.elim
  | .halt _ _, hh => hh.elim
theorem kOp_mono {i : Nat} {a : Act} {w : World} {K K' : Act → World → Prop} (hw0 : Later b0 w) (h : ∀ a w', Later b0 w' → K a w' → K' a w') (hh : kOp P ops b0 i K a w) : kOp P ops b0 i K' a w := by
  unfold kOp at *
  split
  · rename_i ho; simp [ho] at hh
  · rename_i o ho
    simp only [ho] at hh
    split
    · rename_i hw; simp only [hw, if_true] at hh; exact Oper.keepUpon_mono h _ hh
    · rename_i hw; simp only [hw] at hh; exact h _ _ hw0 hh

def wpF (P : Program) (md : Region.Mode) (ops : Array Oper) (b0 : World) (Q : Act → World → Prop) : Nat → Array Bool → Act → World → Prop
  | 0, listed, a, b => Region.ready md ops listed = [] ∧ ∀ w, Later b w → Q a w
  | n + 1, listed, a, b => ∀ w, Later b w → (Region.ready md ops listed = [] → Q a w) ∧ ∀ i ∈ Region.ready md ops listed, kOp P ops b0 i (fun a' w' => wpF P md ops b0 Q n (listed.setIfInBounds i true) a' w') a w
theorem wpF_base {Q : Act → World → Prop} {b c : World} (hl : Later b c) : ∀ (n : Nat) (listed : Array Bool) (a : Act), wpF P md ops b0 Q n listed a b → wpF P md ops b0 Q n listed a c
  | 0, _, _, h => ⟨h.1, fun w hw => h.2 w (hl.trans hw)⟩
  | _ + 1, _, _, h => fun w hw => h w (hl.trans hw)
theorem wpOp_of_kOp {Q' : Exit → Act → World → Prop} {i : Nat} {a : Act} {w : World} {K : Act → World → Prop} (h : kOp P ops b0 i K a w) : wpOp P ops Q' i K a w := by
  unfold kOp at h
  unfold wpOp
  split
  · rename_i ho; simp [ho] at h
  · rename_i o ho
    simp only [ho] at h
    split
    · rename_i hw
      simp only [hw, if_true] at h
      refine .inl ?_
      unfold Go.Oper.wp
      generalize (execOp a.eval o).run P w = r at *
      cases r with
      | ok n w' =>
        cases n <;> simp only [Oper.keepUpon] at h <;> simp only [Go.Oper.upon]
        case value u => exact h.2
        case skip => exact h.2
        case enter f args =>
          obtain ⟨rfl, hc⟩ := h
          exact hc.mono fun e w'' ⟨u, he, _, hk⟩ => by subst he; exact hk
      | halt x w' => simp only [Oper.keepUpon] at h
    · rename_i hw; simp only [hw] at h; exact h
theorem wpAny_of_wpF {Q : Act → World → Prop} {Q' : Exit → Act → World → Prop} (hQ : ∀ a w, Q a w → Q' .normal a w) : ∀ (n : Nat) (listed : Array Bool) (a : Act) (w : World), wpF P md ops b0 Q n listed a w → wpAny P md ops Q' n listed a w
  | 0, _, _, w, h => ⟨h.1, hQ _ _ (h.2 w (Later.refl _))⟩
  | n + 1, _, _, w, h => ⟨fun h0 => hQ _ _ ((h w (Later.refl _)).1 h0), fun i hi => wpOp_mono (fun a' w' h' => wpAny_of_wpF hQ n _ a' w' h') (wpOp_of_kOp ((h w (Later.refl _)).2 i hi))⟩

theorem Gives.kOp {w : World} {i : Nat} {o : Oper} {v : Value} {a : Act} (hi : ops[i]? = some o) (hy : Gives P ops b0 o v a) (hw : Later b0 w) {K : Act → World → Prop} (h : ∀ w', Later w w' → K (a.put o.dst v) w') : kOp P ops b0 i K a w := by
  unfold Go.Proofs.Ytoflkbilkkfekaa.kOp
  simp only [hi]
  rcases hy with ⟨hwt, hv⟩ | ⟨hwt, rfl⟩
  · simp only [hwt, if_true]
    have hv := hv w hw
    generalize (execOp a.eval o).run P w = r at *
    cases r with
    | ok n w' =>
      cases n <;> simp only [Oper.mildUpon] at hv <;> simp only [Oper.keepUpon]
      case value u => obtain ⟨rfl, rfl⟩ := hv; exact ⟨hw, h _ (Later.refl _)⟩
      case skip => obtain ⟨rfl, rfl⟩ := hv; exact ⟨hw, h _ (Later.refl _)⟩
      case enter f args => exact ⟨hv.1, hv.2.mono fun e w'' ⟨he, hl⟩ => ⟨v, he, hw.trans hl, h _ hl⟩⟩
    | halt x w' => simp only [Oper.mildUpon] at hv
  · simp only [hwt, Bool.false_eq_true, if_false]; exact h _ (Later.refl _)
theorem kOp_put {w : World} {j : Nat} {oi oj : Oper} {v : Value} (hj : ops[j]? = some oj) (hap : oi.apart ops oj = true)
    (hsi : ∀ cs d, oi.op ≠ .select cs d) (hsj : ∀ cs d, oj.op ≠ .select cs d) {K : Act → World → Prop} {a : Act}
    (hy : Gives P ops b0 oi v a) (h : kOp P ops b0 j K (a.put oi.dst v) w) :
    kOp P ops b0 j (fun a' w' => Gives P ops b0 oi v a' ∧ K (a'.put oi.dst v) w') a w := by
  obtain ⟨h1, h2, h3⟩ := Oper.apart_spec hap
  have keep : ∀ u, Gives P ops b0 oi v (a.put oj.dst u) := fun u => hy.of_same (execOp_put oi hsi a oj.dst u h3) (wanted_put oi a oj.dst u h3)
  unfold Go.Proofs.Ytoflkbilkkfekaa.kOp at *
  simp only [hj] at *
  rw [wanted_put oj a oi.dst v h1] at h
  split
  · rename_i hw
    simp only [hw, if_true] at h
    rw [execOp_put oj hsj a oi.dst v h1] at h
    generalize (execOp a.eval oj).run P w = r at *
    cases r with
    | ok n w' =>
      cases n <;> simp only [Oper.keepUpon] at h ⊢
      case value u => exact ⟨h.1, keep u, by rw [← Act.put_comm a v u h2]; exact h.2⟩
      case skip => exact ⟨h.1, keep _, by rw [← Act.put_comm a v undef h2]; exact h.2⟩
      case enter f args => exact ⟨h.1, h.2.mono fun e w'' ⟨u, he, hl, hk⟩ => ⟨u, he, hl, keep u, by rw [← Act.put_comm a v u h2]; exact hk⟩⟩
    | halt x w' => simp only [Oper.keepUpon] at h
  · rename_i hw
    simp only [hw] at h
    exact ⟨keep _, by rw [← Act.put_comm a v undef h2]; exact h⟩

theorem wpF_first {Q : Act → World → Prop} {i : Nat} {oi : Oper} {v : Value} (hi : ops[i]? = some oi) (hsel : ∀ (j : Nat) (o : Oper) cs d, ops[j]? = some o → o.op ≠ .select cs d) :
    ∀ (n : Nat) (listed : Array Bool) (a : Act) (b : World), Later b0 b →
      (∀ j oj, ops[j]? = some oj → j ≠ i → listed.getD j true = false → (∀ e ∈ oj.after, Region.binds md e = true → e.on ≠ i) → oi.apart ops oj = true) →
      i ∈ Region.ready md ops listed → Gives P ops b0 oi v a →
      wpF P md ops b0 Q n (listed.setIfInBounds i true) (a.put oi.dst v) b → wpF P md ops b0 Q (n + 1) listed a b := by
  intro n
  induction n with
  | zero =>
    intro listed a b hb _ hr hy H w hw
    refine ⟨fun h => (by rw [h] at hr; cases hr), fun j hj => ?_⟩
    by_cases hji : j = i
    · subst hji; exact hy.kOp hi (hb.trans hw) fun w' hw' => wpF_base (hw.trans hw') 0 _ _ H
    · have := ready_mono hj hji
      rw [H.1] at this
      cases this
  | succ n ih =>
    intro listed a b hb hfree hr hy H w hw
    refine ⟨fun h => (by rw [h] at hr; cases hr), fun j hj => ?_⟩
    by_cases hji : j = i
    · subst hji; exact hy.kOp hi (hb.trans hw) fun w' hw' => wpF_base (hw.trans hw') (n + 1) _ _ H
    · have h1 := (H w hw).2 j (ready_mono hj hji)
      obtain ⟨hjun, oj, hoj, hall⟩ := mem_ready.1 hj
      have hnot : ∀ e ∈ oj.after, Region.binds md e = true → e.on ≠ i := fun e he hb heq => by
        have h1 := hall e he hb
        have h0 := (mem_ready.1 hr).1
        rw [heq] at h1
        rcases Nat.lt_or_ge i listed.size with h' | h'
        · simp [h'] at h0 h1; rw [h0] at h1; cases h1
        · simp [Array.getElem?_eq_none h'] at h1
      have h2 := kOp_put hoj (hfree j oj hoj hji hjun hnot) (fun cs d => hsel i oi cs d hi) (fun cs d => hsel j oj cs d hoj) hy h1
      have hfree' : ∀ k ok, ops[k]? = some ok → k ≠ i → (listed.setIfInBounds j true).getD k true = false →
          (∀ e ∈ ok.after, Region.binds md e = true → e.on ≠ i) → oi.apart ops ok = true := fun k ok hk hki hun hno => by
        refine hfree k ok hk hki ?_ hno
        by_cases hjk : j = k
        · subst hjk; exact hjun
        · rw [getD_set_ne true hjk] at hun; exact hun
      refine kOp_mono (hb.trans hw) (fun a' w' hl h3 => ih (listed.setIfInBounds j true) a' w' hl hfree' (ready_mono hr (Ne.symm hji)) h3.1 ?_) h2
      rw [Array.setIfInBounds_comm _ _ hji]
      exact h3.2

/-- the walk along one order: false: one value in every world later than b0; true: what alone may come up -/
def wpK (P : Program) (ops : Array Oper) (b0 : World) (Q : Act → World → Prop) : List (Nat × Bool) → Act → World → Prop
  | [], a, b => ∀ w, Later b w → Q a w
  | (i, false) :: σ, a, b => ∃ o, ops[i]? = some o ∧ if Region.wanted o (yielded ops a.tmps) then Oper.mild P o a b0 (fun a' => wpK P ops b0 Q σ a' b) else wpK P ops b0 Q σ (a.put o.dst undef) b
  | (i, true) :: σ, a, b => ∀ w, Later b w → kOp P ops b0 i (fun a' w' => wpK P ops b0 Q σ a' w') a w
theorem wpF_of_wpK {Q : Act → World → Prop} (hs : Region.noSelect ops = true) : ∀ (σ : List (Nat × Bool)) (listed : Array Bool) (a : Act) (b : World), Later b0 b → schedB md ops σ listed = true → wpK P ops b0 Q σ a b → wpF P md ops b0 Q σ.length listed a b
  | [], listed, a, b, _, hB, h => ⟨by simpa [schedB] using hB, h⟩
  | (i, false) :: σ, listed, a, b, hb, hB, h => by
    simp only [schedB, Bool.and_eq_true] at hB
    obtain ⟨o, ho, h⟩ := h
    by_cases hw : Region.wanted o (yielded ops a.tmps) = true
    · simp only [hw, if_true] at h
      obtain ⟨v, hv, hk⟩ := h
      exact wpF_first ho (Region.noSelect_spec hs) σ.length listed a b hb (Region.free_spec ho hB.1.2) (by simpa using hB.1.1) (.inl ⟨hw, hv⟩) (wpF_of_wpK hs σ _ _ _ hb hB.2 hk)
    · simp only [hw] at h
      exact wpF_first ho (Region.noSelect_spec hs) σ.length listed a b hb (Region.free_spec ho hB.1.2) (by simpa using hB.1.1) (.inr ⟨by simpa using hw, rfl⟩) (wpF_of_wpK hs σ _ _ _ hb hB.2 h)
  | (i, true) :: σ, listed, a, b, hb, hB, h => by
    simp only [schedB, Bool.and_eq_true, beq_iff_eq] at hB
    intro w hw
    refine ⟨fun h0 => (by rw [hB.1] at h0; cases h0), fun j hj => ?_⟩
    rw [hB.1] at hj
    simp at hj
    subst hj
    exact kOp_mono (hb.trans hw) (fun a' w' hl h' => wpF_of_wpK hs σ _ a' w' hl hB.2 h') (h w hw)
/-- A REGION THAT DRAWS ITS ORDER and stores into what is younger than b0. -/
theorem wp_region_old {id : Nat} {Q : Exit → Act → World → Prop} {a : Act} {w : World} {l : List Oper} (b0 : World) (hb : Later b0 w) (σ : List (Nat × Bool)) (hm : P.follows .mixedOrders = true) (hs : Region.noSelect l.toArray = true) (hn : (σ.length == l.length) = true)
    (hB : schedB .any l.toArray σ (Array.replicate l.length false) = true)
    (h : wpK P l.toArray b0 (fun a' w' => Q .normal a' w') σ a w.drew) : (Code.region id l.toArray true).wp P Q a w := by
  refine wp_region_any hm ?_
  have h1 := wpF_of_wpK (md := .any) hs σ _ a _ hb.drew hB h
  have h2 := wpAny_of_wpF (Q' := Q) (fun _ _ h => h) _ _ _ _ h1
  have e : l.toArray.size = σ.length := by simp at hn; simp [hn]
  rw [e]
  have e2 : l.length = σ.length := by simp at hn; exact hn.symm
  rw [e2] at h2
  exact h2
theorem wpK_mild {Q : Act → World → Prop} {i : Nat} {o : Oper} {σ : List (Nat × Bool)} {a : Act} {b : World} (ho : ops[i]? = some o)
    (h : ∀ K : Act → Prop, (∀ a', wpK P ops b0 Q σ a' b → K a') → if Region.wanted o (yielded ops a.tmps) then Oper.mildG P o a b0 K else K (a.put o.dst undef)) : wpK P ops b0 Q ((i, false) :: σ) a b := by
  refine ⟨o, ho, ?_⟩
  have := h _ (fun _ h => h)
  split
  · rename_i hw; rw [if_pos hw] at this; exact Oper.mild_of_mildG this
  · rename_i hw; rw [if_neg hw] at this; exact this
theorem wpK_nil {Q : Act → World → Prop} {a : Act} {b : World} (h : ∀ w, Later b w → Q a w) : wpK P ops b0 Q [] a b := h
theorem wpK_call {Q : Act → World → Prop} {i : Nat} {o : Oper} {σ : List (Nat × Bool)} {a : Act} {b : World} (ho : ops[i]? = some o) (hw : Region.wanted o (yielded ops a.tmps) = true) (f : FuncId) (hp : Plain P f) (xs : List Operand) (ts : Array TypeId) (hop : o.op = .call { callee := .value (.func f), args := xs.toArray, argTypes := ts }) (us : List Value) (hx : xs.map a.eval = us)
    (v : Value) (hc : ∀ w, Later b0 w → Calls P f us.toArray w fun e w' => e = .returned v ∧ Later w w')
    (h : wpK P ops b0 Q σ (a.put o.dst v) b) : wpK P ops b0 Q ((i, false) :: σ) a b := by
  refine ⟨o, ho, ?_⟩
  rw [if_pos hw]
  refine ⟨v, fun w hl => ?_, h⟩
  rw [run_call f hp xs ts hop us hx]
  exact ⟨rfl, hc w hl⟩
/-- a store of one cell, where it alone may come up -/
theorem wpK_store {Q : Act → World → Prop} {i : Nat} {o : Oper} {σ : List (Nat × Bool)} {a : Act} {b : World} (ho : ops[i]? = some o) (hgd : o.guard = none) (ty : TypeId) (x y : Operand) (hop : o.op = .store ty x y) (g off : Nat) (hx : a.eval x = .pointer (some ⟨g, off, none⟩)) (k : IntKind) (z : Int) (hy : a.eval y = .int k z)
    (hs : (P.info? ty).map (·.size) = some 1) (t : TypeId) (cs : List Value) (hB : Box b g t cs) (hl : off < cs.length) (hb : Later b0 b) (hg : b0.heap.size ≤ g)
    (h : ∀ wl, Later b wl → ∀ w', Box w' g t (cs.set off (.int k z)) → Later b0 w' → Hid (w' = wl.setCells g off [.int k z]) → wpK P ops b0 Q σ (a.put o.dst undef) w') : wpK P ops b0 Q ((i, true) :: σ) a b := by
  intro w hw
  unfold kOp
  simp only [ho]
  rw [if_pos (by simp [Region.wanted, hgd])]
  have hBw := hB.later hw
  have hc : w.cell? ⟨g, off, none⟩ = some (cs[off]'hl) := by rw [hBw.cell off, List.getElem?_eq_getElem hl]
  have hf := hBw.frozen off
  have hrun : (Instr.storeAt ty (.pointer (some ⟨g, off, none⟩)) (.int k z)).run P w = .ok () (w.setCells g off [.int k z]) := by
    simp [Instr.storeAt, Instr.sureAddr, storeVar, run_size hs, Value.cells, World.setCells]
    go_simp
  have hl0 : Later b0 (w.setCells g off [.int k z]) := (hb.trans hw).setCells hg _ _
  have h2 := h w hw _ (hBw.set off (.int k z)) hl0 rfl
  simp [execOp, hop, hx, hy, hrun, Result.andThen, Oper.keepUpon]
  exact ⟨hl0, h2⟩
end
end Go.Proofs.Ytoflkbilkkfekaa

namespace Go.Proofs.Ytoflkbilkkfekaa
open Go Go.RowKit
set_option linter.unusedVariables false
set_option linter.unusedSimpArgs false

/-! As RegO, with whatever is kept (I) in place of what is later than b0. -/
section
variable {P : Program} {ops : Array Oper} {md : Region.Mode} {I : World → Prop}

/-- a world that keeps I -/
structure Held (I : World → Prop) where
  w : World
  h : I w
def Oper.mildI (P : Program) (I : World → Prop) (o : Oper) (a : Act) (next : Act → Prop) : Prop :=
  ∃ v, (∀ p : Held I, Oper.mildUpon P p.w v ((execOp a.eval o).run P p.w)) ∧ next (a.put o.dst v)
def GivesI (P : Program) (ops : Array Oper) (I : World → Prop) (o : Oper) (v : Value) (a : Act) : Prop :=
  (Region.wanted o (yielded ops a.tmps) = true ∧ ∀ p : Held I, Oper.mildUpon P p.w v ((execOp a.eval o).run P p.w)) ∨
  (Region.wanted o (yielded ops a.tmps) = false ∧ v = undef)
theorem GivesI.of_same {o : Oper} {v : Value} {a a' : Act} (hy : GivesI P ops I o v a) (he : execOp a'.eval o = execOp a.eval o)
    (hw : Region.wanted o (yielded ops a'.tmps) = Region.wanted o (yielded ops a.tmps)) : GivesI P ops I o v a' := by
  unfold GivesI at *
  rw [he, hw]
  exact hy

def Oper.heldUpon (P : Program) (I : World → Prop) (o : Oper) (a : Act) (w : World) (K : Act → World → Prop) : Result Next → Prop
  | .ok (.value u) w' => I w' ∧ K (a.put o.dst u) w'
  | .ok .skip w' => I w' ∧ K (a.put o.dst undef) w'
  | .ok (.enter f args) w' => w' = w ∧ Calls P f args w (fun e w'' => ∃ u, e = .returned u ∧ I w'' ∧ K (a.put o.dst u) w'')
  | _ => False
def jOp (P : Program) (ops : Array Oper) (I : World → Prop) (i : Nat) (K : Act → World → Prop) (a : Act) (w : World) : Prop :=
  match ops[i]? with
  | none => False
  | some o => if Region.wanted o (yielded ops a.tmps) then Oper.heldUpon P I o a w K ((execOp a.eval o).run P w) else K (a.put o.dst undef) w

theorem Oper.heldUpon_mono {o : Oper} {a : Act} {w : World} {K K' : Act → World → Prop} (h : ∀ a w', I w' → K a w' → K' a w') : ∀ r, Oper.heldUpon P I o a w K r → Oper.heldUpon P I o a w K' r
  | .ok (.value u) w', hh => ⟨hh.1, h _ _ hh.1 hh.2⟩
  | .ok .skip w', hh => ⟨hh.1, h _ _ hh.1 hh.2⟩
  | .ok (.enter f args) w', hh => ⟨hh.1, hh.2.mono fun e w'' ⟨u, he, hl, hk⟩ => ⟨u, he, hl, h _ _ hl hk⟩⟩
  | .ok (.defer _) _, hh => hh.elim
  | .ok (.row _ _) _, hh => hh.elim
  | .halt _ _, hh => hh.elim
theorem jOp_mono {i : Nat} {a : Act} {w : World} {K K' : Act → World → Prop} (hw0 : I w) (h : ∀ a w', I w' → K a w' → K' a w') (hh : jOp P ops I i K a w) : jOp P ops I i K' a w := by
  unfold jOp at *
  split
  · rename_i ho; simp [ho] at hh
  · rename_i o ho
    simp only [ho] at hh
    split
    · rename_i hw; simp only [hw, if_true] at hh; exact Oper.heldUpon_mono h _ hh
    · rename_i hw; simp only [hw] at hh; exact h _ _ hw0 hh

def wpH (P : Program) (md : Region.Mode) (ops : Array Oper) (I : World → Prop) (Q : Act → World → Prop) : Nat → Array Bool → Act → World → Prop
  | 0, listed, a, b => Region.ready md ops listed = [] ∧ ∀ w, Later b w → Q a w
  | n + 1, listed, a, b => ∀ w, Later b w → (Region.ready md ops listed = [] → Q a w) ∧ ∀ i ∈ Region.ready md ops listed, jOp P ops I i (fun a' w' => wpH P md ops I Q n (listed.setIfInBounds i true) a' w') a w
theorem wpH_base {Q : Act → World → Prop} {b c : World} (hl : Later b c) : ∀ (n : Nat) (listed : Array Bool) (a : Act), wpH P md ops I Q n listed a b → wpH P md ops I Q n listed a c
  | 0, _, _, h => ⟨h.1, fun w hw => h.2 w (hl.trans hw)⟩
  | _ + 1, _, _, h => fun w hw => h w (hl.trans hw)
theorem wpOp_of_jOp {Q' : Exit → Act → World → Prop} {i : Nat} {a : Act} {w : World} {K : Act → World → Prop} (h : jOp P ops I i K a w) : wpOp P ops Q' i K a w := by
  unfold jOp at h
  unfold wpOp
  split
  · rename_i ho; simp [ho] at h
  · rename_i o ho
    simp only [ho] at h
    split
    · rename_i hw
      simp only [hw, if_true] at h
      refine .inl ?_
      unfold Go.Oper.wp
      generalize (execOp a.eval o).run P w = r at *
      cases r with
      | ok n w' =>
        cases n <;> simp only [Oper.heldUpon] at h <;> simp only [Go.Oper.upon]
        case value u => exact h.2
        case skip => exact h.2
        case enter f args =>
          obtain ⟨rfl, hc⟩ := h
          exact hc.mono fun e w'' ⟨u, he, _, hk⟩ => by subst he; exact hk
      | halt x w' => simp only [Oper.heldUpon] at h
    · rename_i hw; simp only [hw] at h; exact h
theorem wpAny_of_wpH {Q : Act → World → Prop} {Q' : Exit → Act → World → Prop} (hQ : ∀ a w, Q a w → Q' .normal a w) : ∀ (n : Nat) (listed : Array Bool) (a : Act) (w : World), wpH P md ops I Q n listed a w → wpAny P md ops Q' n listed a w
  | 0, _, _, w, h => ⟨h.1, hQ _ _ (h.2 w (Later.refl _))⟩
  | n + 1, _, _, w, h => ⟨fun h0 => hQ _ _ ((h w (Later.refl _)).1 h0), fun i hi => wpOp_mono (fun a' w' h' => wpAny_of_wpH hQ n _ a' w' h') (wpOp_of_jOp ((h w (Later.refl _)).2 i hi))⟩

theorem GivesI.jOp (hI : ∀ w w', Later w w' → I w → I w') {w : World} {i : Nat} {o : Oper} {v : Value} {a : Act} (hi : ops[i]? = some o) (hy : GivesI P ops I o v a) (hw : I w) {K : Act → World → Prop} (h : ∀ w', Later w w' → K (a.put o.dst v) w') : jOp P ops I i K a w := by
  unfold Go.Proofs.Ytoflkbilkkfekaa.jOp
  simp only [hi]
  rcases hy with ⟨hwt, hv⟩ | ⟨hwt, rfl⟩
  · simp only [hwt, if_true]
    have hv := hv ⟨w, hw⟩
    generalize (execOp a.eval o).run P w = r at *
    cases r with
    | ok n w' =>
      cases n <;> simp only [Oper.mildUpon] at hv <;> simp only [Oper.heldUpon]
      case value u => obtain ⟨rfl, rfl⟩ := hv; exact ⟨hw, h _ (Later.refl _)⟩
      case skip => obtain ⟨rfl, rfl⟩ := hv; exact ⟨hw, h _ (Later.refl _)⟩
      case enter f args => exact ⟨hv.1, hv.2.mono fun e w'' ⟨he, hl⟩ => ⟨v, he, hI _ _ hl hw, h _ hl⟩⟩
    | halt x w' => simp only [Oper.mildUpon] at hv
  · simp only [hwt, Bool.false_eq_true, if_false]; exact h _ (Later.refl _)
theorem jOp_put {w : World} {j : Nat} {oi oj : Oper} {v : Value} (hj : ops[j]? = some oj) (hap : oi.apart ops oj = true)
    (hsi : ∀ cs d, oi.op ≠ .select cs d) (hsj : ∀ cs d, oj.op ≠ .select cs d) {K : Act → World → Prop} {a : Act}
    (hy : GivesI P ops I oi v a) (h : jOp P ops I j K (a.put oi.dst v) w) :
    jOp P ops I j (fun a' w' => GivesI P ops I oi v a' ∧ K (a'.put oi.dst v) w') a w := by
  obtain ⟨h1, h2, h3⟩ := Oper.apart_spec hap
  have keep : ∀ u, GivesI P ops I oi v (a.put oj.dst u) := fun u => hy.of_same (execOp_put oi hsi a oj.dst u h3) (wanted_put oi a oj.dst u h3)
  unfold Go.Proofs.Ytoflkbilkkfekaa.jOp at *
  simp only [hj] at *
  rw [wanted_put oj a oi.dst v h1] at h
  split
  · rename_i hw
    simp only [hw, if_true] at h
    rw [execOp_put oj hsj a oi.dst v h1] at h
    generalize (execOp a.eval oj).run P w = r at *
    cases r with
    | ok n w' =>
      cases n <;> simp only [Oper.heldUpon] at h ⊢
      case value u => exact ⟨h.1, keep u, by rw [← Act.put_comm a v u h2]; exact h.2⟩
      case skip => exact ⟨h.1, keep _, by rw [← Act.put_comm a v undef h2]; exact h.2⟩
      case enter f args => exact ⟨h.1, h.2.mono fun e w'' ⟨u, he, hl, hk⟩ => ⟨u, he, hl, keep u, by rw [← Act.put_comm a v u h2]; exact hk⟩⟩
    | halt x w' => simp only [Oper.heldUpon] at h
  · rename_i hw
    simp only [hw] at h
    exact ⟨keep _, by rw [← Act.put_comm a v undef h2]; exact h⟩

theorem wpH_first (hI : ∀ w w', Later w w' → I w → I w') {Q : Act → World → Prop} {i : Nat} {oi : Oper} {v : Value} (hi : ops[i]? = some oi) (hsel : ∀ (j : Nat) (o : Oper) cs d, ops[j]? = some o → o.op ≠ .select cs d) :
    ∀ (n : Nat) (listed : Array Bool) (a : Act) (b : World), I b →
      (∀ j oj, ops[j]? = some oj → j ≠ i → listed.getD j true = false → (∀ e ∈ oj.after, Region.binds md e = true → e.on ≠ i) → oi.apart ops oj = true) →
      i ∈ Region.ready md ops listed → GivesI P ops I oi v a →
      wpH P md ops I Q n (listed.setIfInBounds i true) (a.put oi.dst v) b → wpH P md ops I Q (n + 1) listed a b := by
  intro n
  induction n with
  | zero =>
    intro listed a b hb _ hr hy H w hw
    refine ⟨fun h => (by rw [h] at hr; cases hr), fun j hj => ?_⟩
    by_cases hji : j = i
    · subst hji; exact hy.jOp hI hi (hI _ _ hw hb) fun w' hw' => wpH_base (hw.trans hw') 0 _ _ H
    · have := ready_mono hj hji
      rw [H.1] at this
      cases this
  | succ n ih =>
    intro listed a b hb hfree hr hy H w hw
    refine ⟨fun h => (by rw [h] at hr; cases hr), fun j hj => ?_⟩
    by_cases hji : j = i
    · subst hji; exact hy.jOp hI hi (hI _ _ hw hb) fun w' hw' => wpH_base (hw.trans hw') (n + 1) _ _ H
    · have h1 := (H w hw).2 j (ready_mono hj hji)
      obtain ⟨hjun, oj, hoj, hall⟩ := mem_ready.1 hj
      have hnot : ∀ e ∈ oj.after, Region.binds md e = true → e.on ≠ i := fun e he hb heq => by
        have h1 := hall e he hb
        have h0 := (mem_ready.1 hr).1
        rw [heq] at h1
        rcases Nat.lt_or_ge i listed.size with h' | h'
        · simp [h'] at h0 h1; rw [h0] at h1; cases h1
        · simp [Array.getElem?_eq_none h'] at h1
      have h2 := jOp_put hoj (hfree j oj hoj hji hjun hnot) (fun cs d => hsel i oi cs d hi) (fun cs d => hsel j oj cs d hoj) hy h1
      have hfree' : ∀ k ok, ops[k]? = some ok → k ≠ i → (listed.setIfInBounds j true).getD k true = false →
          (∀ e ∈ ok.after, Region.binds md e = true → e.on ≠ i) → oi.apart ops ok = true := fun k ok hk hki hun hno => by
        refine hfree k ok hk hki ?_ hno
        by_cases hjk : j = k
        · subst hjk; exact hjun
        · rw [getD_set_ne true hjk] at hun; exact hun
      refine jOp_mono (hI _ _ hw hb) (fun a' w' hl h3 => ih (listed.setIfInBounds j true) a' w' hl hfree' (ready_mono hr (Ne.symm hji)) h3.1 ?_) h2
      rw [Array.setIfInBounds_comm _ _ hji]
      exact h3.2

/-- the walk along one order: false: one value in every world later than b0; true: what alone may come up -/
def wpJ (P : Program) (ops : Array Oper) (I : World → Prop) (Q : Act → World → Prop) : List (Nat × Bool) → Act → World → Prop
  | [], a, b => ∀ w, Later b w → Q a w
  | (i, false) :: σ, a, b => ∃ o, ops[i]? = some o ∧ if Region.wanted o (yielded ops a.tmps) then Oper.mildI P I o a (fun a' => wpJ P ops I Q σ a' b) else wpJ P ops I Q σ (a.put o.dst undef) b
  | (i, true) :: σ, a, b => ∀ w, Later b w → jOp P ops I i (fun a' w' => wpJ P ops I Q σ a' w') a w
theorem wpH_of_wpJ (hI : ∀ w w', Later w w' → I w → I w') {Q : Act → World → Prop} (hs : Region.noSelect ops = true) : ∀ (σ : List (Nat × Bool)) (listed : Array Bool) (a : Act) (b : World), I b → schedB md ops σ listed = true → wpJ P ops I Q σ a b → wpH P md ops I Q σ.length listed a b
  | [], listed, a, b, _, hB, h => ⟨by simpa [schedB] using hB, h⟩
  | (i, false) :: σ, listed, a, b, hb, hB, h => by
    simp only [schedB, Bool.and_eq_true] at hB
    obtain ⟨o, ho, h⟩ := h
    by_cases hw : Region.wanted o (yielded ops a.tmps) = true
    · simp only [hw, if_true] at h
      obtain ⟨v, hv, hk⟩ := h
      exact wpH_first hI ho (Region.noSelect_spec hs) σ.length listed a b hb (Region.free_spec ho hB.1.2) (by simpa using hB.1.1) (.inl ⟨hw, hv⟩) (wpH_of_wpJ hI hs σ _ _ _ hb hB.2 hk)
    · simp only [hw] at h
      exact wpH_first hI ho (Region.noSelect_spec hs) σ.length listed a b hb (Region.free_spec ho hB.1.2) (by simpa using hB.1.1) (.inr ⟨by simpa using hw, rfl⟩) (wpH_of_wpJ hI hs σ _ _ _ hb hB.2 h)
  | (i, true) :: σ, listed, a, b, hb, hB, h => by
    simp only [schedB, Bool.and_eq_true, beq_iff_eq] at hB
    intro w hw
    refine ⟨fun h0 => (by rw [hB.1] at h0; cases h0), fun j hj => ?_⟩
    rw [hB.1] at hj
    simp at hj
    subst hj
    exact jOp_mono (hI _ _ hw hb) (fun a' w' hl h' => wpH_of_wpJ hI hs σ _ a' w' hl hB.2 h') (h w hw)
/-- A REGION THAT DRAWS ITS ORDER and stores into what is younger than b0. -/
theorem wp_region_held {id : Nat} {Q : Exit → Act → World → Prop} {a : Act} {w : World} {l : List Oper} (I : World → Prop) (hI : ∀ w w', Later w w' → I w → I w') (hb : I w) (σ : List (Nat × Bool)) (hm : P.follows .mixedOrders = true) (hs : Region.noSelect l.toArray = true) (hn : (σ.length == l.length) = true)
    (hB : schedB .any l.toArray σ (Array.replicate l.length false) = true)
    (h : wpJ P l.toArray I (fun a' w' => Q .normal a' w') σ a w.drew) : (Code.region id l.toArray true).wp P Q a w := by
  refine wp_region_any hm ?_
  have h1 := wpH_of_wpJ hI (md := .any) hs σ _ a _ (hI _ _ (Later.refl w).drew hb) hB h
  have h2 := wpAny_of_wpH (Q' := Q) (fun _ _ h => h) _ _ _ _ h1
  have e : l.toArray.size = σ.length := by simp at hn; simp [hn]
  rw [e]
  have e2 : l.length = σ.length := by simp at hn; exact hn.symm
  rw [e2] at h2
  exact h2
theorem wpJ_mild {Q : Act → World → Prop} {i : Nat} {o : Oper} {σ : List (Nat × Bool)} {a : Act} {b : World} (ho : ops[i]? = some o)
    (h : ∀ K : Act → Prop, (∀ a', wpJ P ops I Q σ a' b → K a') → if Region.wanted o (yielded ops a.tmps) then Oper.mildI P I o a K else K (a.put o.dst undef)) : wpJ P ops I Q ((i, false) :: σ) a b := by
  refine ⟨o, ho, ?_⟩
  have := h _ (fun _ h => h)
  split
  · rename_i hw; rw [if_pos hw] at this; exact this
  · rename_i hw; rw [if_neg hw] at this; exact this
theorem wpJ_nil {Q : Act → World → Prop} {a : Act} {b : World} (h : ∀ w, Later b w → Q a w) : wpJ P ops I Q [] a b := h
theorem wpJ_call {Q : Act → World → Prop} {i : Nat} {o : Oper} {σ : List (Nat × Bool)} {a : Act} {b : World} (ho : ops[i]? = some o) (hw : Region.wanted o (yielded ops a.tmps) = true) (f : FuncId) (hp : Plain P f) (xs : List Operand) (ts : Array TypeId) (hop : o.op = .call { callee := .value (.func f), args := xs.toArray, argTypes := ts }) (us : List Value) (hx : xs.map a.eval = us)
    (v : Value) (hc : ∀ w, I w → Calls P f us.toArray w fun e w' => e = .returned v ∧ Later w w')
    (h : wpJ P ops I Q σ (a.put o.dst v) b) : wpJ P ops I Q ((i, false) :: σ) a b := by
  refine ⟨o, ho, ?_⟩
  rw [if_pos hw]
  refine ⟨v, fun p => ?_, h⟩
  rw [run_call f hp xs ts hop us hx]
  exact ⟨rfl, hc p.w p.h⟩
/-- a store of many cells, where it alone may come up -/
theorem wpJ_store {Q : Act → World → Prop} {i : Nat} {o : Oper} {σ : List (Nat × Bool)} {a : Act} {b : World} (ho : ops[i]? = some o) (hgd : o.guard = none) (ty : TypeId) (x y : Operand) (hop : o.op = .store ty x y) (g : Nat) (cells : List Value) (hx : a.eval x = .pointer (some ⟨g, 0, none⟩)) (hy : a.eval y = .agg cells.toArray)
    (hi : (P.info? ty).map (·.size) = some cells.length) (h1 : ∀ v ∈ cells, v.oneCell' = true) (t : TypeId) (cs : List Value) (hB : Box b g t cs) (hl : cells.length ≤ cs.length) (hI2 : ∀ w, Later b w → I (w.setCells g 0 cells))
    (h : ∀ wl, Later b wl → ∀ w', Hid (w' = wl.setCells g 0 cells) → wpJ P ops I Q σ (a.put o.dst undef) w') : wpJ P ops I Q ((i, true) :: σ) a b := by
  intro w hw
  unfold jOp
  simp only [ho]
  rw [if_pos (by simp [Region.wanted, hgd])]
  have hBw := hB.later hw
  have hrun := run_storeAt_mid (P := P) w g 0 ty cells.toArray (by simpa using hBw.there 0 cells.length (by omega)) (by simpa using hi) (all_oneCell_toArray h1)
  have hl0 := hI2 w hw
  have h2 := h w hw _ rfl
  simp [execOp, hop, hx, hy, hrun, Result.andThen, Oper.heldUpon]
  exact ⟨hl0, h2⟩
end
attribute [go_sem] Oper.mildI
end Go.Proofs.Ytoflkbilkkfekaa

namespace Go.Proofs.Ytoflkbilkkfekaa
open Go.ChangeShapes Go.WideShapes Go.ChangeAt Go.RowKit
set_option linter.unusedVariables false
set_option linter.unusedSimpArgs false

/-! formOf. -/
/-- a row of rules lies in no variable that holds a form: its second cell is a u64 -/
theorem rw_off6 {w : World} {s : Value} {L : List Rul} {g : Nat} {t : TypeId} {f : List Value} (h : Rw 3 w s L.length (rv L)) (hB : Box w g t f) (hf : ∀ u ∈ f, ∀ x : Int, u ≠ .int .u64 x) (vs : List Value) (o : Nat) : Rw 3 (w.setCells g o vs) s L.length (rv L) := by
  obtain ⟨h1, h2, a, cap, rfl, h3, h4⟩ := h
  refine ⟨h1, h2, a, cap, rfl, h3, ?_⟩
  rcases h4 with h4 | ⟨b, off, rfl, hr⟩
  · exact .inl h4
  match L, hr with
  | [], _ => exact .inr ⟨b, off, rfl, fun j v hv => by simp [rv] at hv⟩
  | r :: L, hr =>
    have hb : b ≠ g := by
      intro e
      subst e
      have := hr 1 (.int .u64 (r.2.1 : Int)) (by simp [rv, rc])
      rw [hB.cell (off + 1)] at this
      exact hf _ (List.mem_of_getElem? this) _ rfl
    refine .inr ⟨b, off, rfl, fun j v hv => ?_⟩
    have h0 := hr j v hv
    have e := heap_setCells_other w g b hb vs o
    unfold World.cell? at h0 ⊢
    simp only [e]
    exact h0
theorem known_cases (op : Int) : (op = 0 ∨ op = 3 ∨ op = 8 ∨ op = 10 ∨ op = 18 ∨ op = 21 ∨ op = 26 ∨ op = 27 ∨ op = 30 ∨ op = 37 ∨ op = 40 ∨ op = 42 ∨ op = 47 ∨ op = 53 ∨ op = 85 ∨ op = 90 ∨ op = 136 ∨ op = 138 ∨ op = 143 ∨ op = 145 ∨ op = 158 ∨ op = 160 ∨ op = 168 ∨ op = 170 ∨ op = 175) ∨ (op ≠ 0 ∧ op ≠ 3 ∧ op ≠ 8 ∧ op ≠ 10 ∧ op ≠ 18 ∧ op ≠ 21 ∧ op ≠ 26 ∧ op ≠ 27 ∧ op ≠ 30 ∧ op ≠ 37 ∧ op ≠ 40 ∧ op ≠ 42 ∧ op ≠ 47 ∧ op ≠ 53 ∧ op ≠ 85 ∧ op ≠ 90 ∧ op ≠ 136 ∧ op ≠ 138 ∧ op ≠ 143 ∧ op ≠ 145 ∧ op ≠ 158 ∧ op ≠ 160 ∧ op ≠ 168 ∧ op ≠ 170 ∧ op ≠ 175) := by omega
theorem known_other {op : Int} (h : op ≠ 0 ∧ op ≠ 3 ∧ op ≠ 8 ∧ op ≠ 10 ∧ op ≠ 18 ∧ op ≠ 21 ∧ op ≠ 26 ∧ op ≠ 27 ∧ op ≠ 30 ∧ op ≠ 37 ∧ op ≠ 40 ∧ op ≠ 42 ∧ op ≠ 47 ∧ op ≠ 53 ∧ op ≠ 85 ∧ op ≠ 90 ∧ op ≠ 136 ∧ op ≠ 138 ∧ op ≠ 143 ∧ op ≠ 145 ∧ op ≠ 158 ∧ op ≠ 160 ∧ op ≠ 168 ∧ op ≠ 170 ∧ op ≠ 175) : knownB op = false ∧ formN op = (0, 0, 0, 0, 0, []) ∧ classI op = 0 := by
  obtain ⟨h0, h3, h8, h10, h18, h21, h26, h27, h30, h37, h40, h42, h47, h53, h85, h90, h136, h138, h143, h145, h158, h160, h168, h170, h175⟩ := h
  simp [knownB, formN, classI, h0, h3, h8, h10, h18, h21, h26, h27, h30, h37, h40, h42, h47, h53, h85, h90, h136, h138, h143, h145, h158, h160, h168, h170, h175]
end Go.Proofs.Ytoflkbilkkfekaa

namespace Go.Proofs.Ytoflkbilkkfekaa
open Go.ChangeShapes Go.WideShapes Go.ChangeAt Go.RowKit
set_option linter.unusedVariables false
set_option linter.unusedSimpArgs false

/-! allows: is all as it must be? -/
theorem rv_cons (r : Rul) (L : List Rul) : rv (r :: L) = rc r ++ rv L := by simp [rv]
theorem rv_drop : ∀ (L : List Rul) (k : Nat), (rv L).drop (k * 3) = rv (L.drop k)
  | L, 0 => by simp
  | [], k + 1 => by simp [rv]
  | x :: L, k + 1 => by
    rw [rv_cons, List.drop_succ_cons, ← rv_drop L k, List.drop_append, List.drop_of_length_le (by simp [rc]; omega), List.nil_append]
    congr 1; simp [rc]; omega
theorem rv_at (L : List Rul) (k : Nat) (hk : k < L.length) : (rv L)[k * 3]? = some (.int .u16 (L[k].1 : Int)) ∧ (rv L)[k * 3 + 1]? = some (.int .u64 (L[k].2.1 : Int)) ∧ (rv L)[k * 3 + 2]? = some (.int .u64 (L[k].2.2 : Int)) := by
  have h : ∀ j, (rv L)[k * 3 + j]? = (rv (L.drop k))[j]? := fun j => by rw [← rv_drop, List.getElem?_drop]
  have h0 := h 0
  rw [Nat.add_zero] at h0
  rw [h0, h 1, h 2, List.drop_eq_getElem_cons hk, rv_cons]
  exact ⟨rfl, rfl, rfl⟩
def OkR (r : Rul) : Prop := r.1 < 65536 ∧ r.2.1 ≤ 18446744073709551615 ∧ r.2.2 ≤ 18446744073709551615
def okRule (r : Rul) (l : List UInt8) : Bool := decide (r.2.1 ≤ readP r.1 l) && decide (readP r.1 l ≤ r.2.2)
def allowsB (L : List Rul) (l : List UInt8) : Bool := L.all fun r => okRule r l
theorem readP_le (p : Nat) (l : List UInt8) : readP p l ≤ 18446744073709551615 := bitsI_le _ _ _
theorem FormV.later {w w' : World} {v : Value} {f : Frm} (h : FormV w v f) (hl : Later w w') : FormV w' v f := by
  obtain ⟨s, rfl, hr⟩ := h
  exact ⟨s, rfl, hr.later hl⟩
end Go.Proofs.Ytoflkbilkkfekaa

namespace Go.Proofs.Ytoflkbilkkfekaa
open Go.ChangeShapes Go.WideShapes Go.ChangeAt Go.RowKit
set_option linter.unusedVariables false
set_option linter.unusedSimpArgs false

/-! read: the command that the bytes say. -/
abbrev Cmd := Int × Nat × Int × Int × Int
abbrev cc (c : Cmd) : List Value := [.int .i64 c.1, .int .u64 (c.2.1 : Int), .int .i64 c.2.2.1, .int .i64 c.2.2.2.1, .int .i64 c.2.2.2.2]
abbrev cval (c : Cmd) : Value := .agg #[.int .i64 c.1, .int .u64 (c.2.1 : Int), .int .i64 c.2.2.1, .int .i64 c.2.2.2.1, .int .i64 c.2.2.2.2]
theorem cc_one (c : Cmd) : ∀ u ∈ cc c, u.oneCell' = true := by
  intro u hu
  simp [cc] at hu
  rcases hu with rfl | rfl | rfl | rfl | rfl <;> rfl
def readN (f : Frm) (l : List UInt8) : Nat := if readP f.2.1 l = 0 then f.2.2.2.2.1 else readP f.2.1 l
def readC (f : Frm) (l : List UInt8) : Cmd := (0, readP f.1 l, (readN f l : Nat), (readP f.2.2.1 l : Nat), (readP f.2.2.2.1 l : Nat))
def OkF (f : Frm) : Prop := f.1 < 65536 ∧ f.2.1 < 65536 ∧ f.2.2.1 < 65536 ∧ f.2.2.2.1 < 65536 ∧ f.2.2.2.2.1 ≤ 1000 ∧ (∀ l, readP f.2.1 l < 4294967296) ∧ (∀ l, readP f.2.2.1 l < 4294967296) ∧ (∀ l, readP f.2.2.2.1 l < 4294967296)
end Go.Proofs.Ytoflkbilkkfekaa

namespace Go.Proofs.Ytoflkbilkkfekaa
open Go.ChangeShapes Go.WideShapes Go.ChangeAt Go.RowKit
set_option linter.unusedVariables false
set_option linter.unusedSimpArgs false

/-! Known, Size. -/
def sizeN (op : Int) : Nat := if knownB op then (if op < 32 then 6 else if op < 128 then 10 else if op < 160 then 16 else 12) else 0
theorem readP_lt (p : Nat) (l : List UInt8) : readP p l < 2 ^ (p / 128) := by
  unfold readP bitsI
  split
  · have := bitsN_lt (bigAt l (pfirst p) (pwidth p)) (pbit p) (pcount p)
    exact this
  · exact Nat.two_pow_pos _
theorem okF (op : Int) : OkF (formN op) ∧ ∀ r ∈ (formN op).2.2.2.2.2, OkR r := by
  have key : ∀ f : Frm, (f.1 < 65536 ∧ f.2.1 < 65536 ∧ f.2.2.1 < 65536 ∧ f.2.2.2.1 < 65536 ∧ f.2.2.2.2.1 ≤ 1000 ∧ f.2.1 / 128 ≤ 32 ∧ f.2.2.1 / 128 ≤ 32 ∧ f.2.2.2.1 / 128 ≤ 32) → OkF f := by
    rintro f ⟨h1, h2, h3, h4, h5, h6, h7, h8⟩
    have k : ∀ p l, p / 128 ≤ 32 → readP p l < 4294967296 := fun p l h => Nat.lt_of_lt_of_le (readP_lt p l) (by have := Nat.pow_le_pow_right (show 0 < 2 by omega) h; simpa using this)
    exact ⟨h1, h2, h3, h4, h5, fun l => k _ l h6, fun l => k _ l h7, fun l => k _ l h8⟩
  rcases known_cases op with h | h
  · rcases h with rfl | rfl | rfl | rfl | rfl | rfl | rfl | rfl | rfl | rfl | rfl | rfl | rfl | rfl | rfl | rfl | rfl | rfl | rfl | rfl | rfl | rfl | rfl | rfl | rfl <;>
    exact ⟨key _ (by decide), by simp [formN, OkR]⟩
  · rw [(known_other h).2.1]
    exact ⟨key _ (by decide), by simp⟩

/-! Parse. -/
abbrev czero : Cmd := (0, 0, 0, 0, 0)
def parseOp (op : Int) (l : List UInt8) : Cmd × Sns :=
  if knownB op = false then (czero, (5, 32, 0))
  else if l.length < sizeN op ∨ (l.getD (sizeN op - 1) 0).toNat ≠ 0 ∨ allowsB (formN op).2.2.2.2.2 l = false then (czero, (5, 36, 0))
  else if op = 18 ∧ (readC (formN op) l).2.2.2.1 ≠ 0 ∧ (readC (formN op) l).2.2.2.2 ≠ 1 then (czero, (5, 36, 0))
  else ((op, (readC (formN op) l).2), (0, 0, 0))
def parseI (l : List UInt8) : Cmd × Sns := if l.length = 0 then (czero, (5, 32, 0)) else parseOp ((l.getD 0 0).toNat : Nat) l
end Go.Proofs.Ytoflkbilkkfekaa

namespace Go.Proofs.Ytoflkbilkkfekaa
open Go.ChangeShapes Go.WideShapes Go.ChangeAt Go.RowKit
set_option linter.unusedVariables false
set_option linter.unusedSimpArgs false

/-! Parse. -/
theorem results_cc6 {fn : Func} {p q : Tmp} {ty ty' : TypeId} (h : fn.results = #[.cell p ty, .cell q ty']) (tmps : Array Value) (P : Program) (w : World) (b o b' o' : Nat) (hp : tmps.getD p undef = .pointer (some ⟨b, o, none⟩)) (hq : tmps.getD q undef = .pointer (some ⟨b', o', none⟩)) (v u : Value) (hl : (loadVar ty ⟨b, o, none⟩).run P w = .ok v w) (hl' : (loadVar ty' ⟨b', o', none⟩).run P w = .ok u w) :
    (results fn tmps).run P w = .ok (.tuple #[v, u]) w := by
  have ha : (asAddr (tmps.getD p undef)).run P w = .ok ⟨b, o, none⟩ w := by rw [hp]; rfl
  have hb : (asAddr (tmps.getD q undef)).run P w = .ok ⟨b', o', none⟩ w := by rw [hq]; rfl
  simp only [results, h]
  simp only [List.mapM_toArray, Sem.run_bind]
  simp [ha, hl, hb, hl', -Array.getD_eq_getD_getElem?]
theorem Box.apart {w : World} {g : Nat} {t : TypeId} {xs : List Value} (h : Box w g t xs) (k : Nat) (hk : g ≠ k) (vs : List Value) (o : Nat) : Box (w.setCells k o vs) g t xs := h.kept (heap_setCells_other w k g hk vs o)
theorem size_pos {op : Int} (h : knownB op = true) : ∃ m, sizeN op = m + 1 ∧ m ≤ 15 := by
  unfold sizeN
  rw [h]
  simp only [if_true]
  split
  · exact ⟨5, rfl, by omega⟩
  split
  · exact ⟨9, rfl, by omega⟩
  split
  · exact ⟨15, rfl, by omega⟩
  · exact ⟨11, rfl, by omega⟩
end Go.Proofs.Ytoflkbilkkfekaa

namespace Go.Proofs.Ytoflkbilkkfekaa
open Go.ChangeShapes Go.WideShapes Go.ChangeAt Go.RowKit
set_option linter.unusedVariables false
set_option linter.unusedSimpArgs false

/-- the cached writes laid over the blocks, one behind the other -/
def app (F : List UInt8) (D : List Drt) : List UInt8 := D.foldl (fun F d => over F (d.1.toNat * 64) d.2) F
theorem app_snoc (F : List UInt8) (D : List Drt) (d : Drt) : app F (D ++ [d]) = over (app F D) (d.1.toNat * 64) d.2 := by simp [app]
def Fit (n : Nat) (D : List Drt) : Prop := ∀ d ∈ D, d.2.length = 64 ∧ 0 ≤ d.1 ∧ d.1 < n
theorem app_length (n : Nat) : ∀ (D : List Drt) (F : List UInt8), F.length = n * 64 → Fit n D → (app F D).length = n * 64
  | [], F, hF, _ => by simpa [app] using hF
  | d :: D, F, hF, h => by
    have hd := h d (by simp)
    show (app (over F (d.1.toNat * 64) d.2) D).length = n * 64
    exact app_length n D _ (by rw [over_length _ _ _ (by rw [hF, hd.1]; omega), hF]) fun x hx => h x (by simp [hx])
theorem fit_of_right {n : Nat} {D : List Drt} (h : rightB n D = true) (ho : Ok D) : Fit n D := fun d hd => by
  simp only [rightB, decide_eq_true_eq] at h
  exact ⟨(ho d hd).1, (h.2.2 d hd).1, (h.2.2 d hd).2⟩

def allF (n : Nat) (F : List UInt8) (D : List Drt) : List UInt8 := if rightB n D then app F D else []
def allN (n : Nat) (D : List Drt) : Nat := if rightB n D then n else 0

end Go.Proofs.Ytoflkbilkkfekaa

namespace Go.Proofs.Ytoflkbilkkfekaa
open Go.ChangeShapes Go.WideShapes Go.ChangeAt Go.RowKit
set_option linter.unusedVariables false
set_option linter.unusedSimpArgs false

def showE (n : Nat) (D : List Drt) (at_ : Int) : Int := if rightB n D then (if 0 ≤ at_ ∧ at_ < n then 0 else 5) else 1
def showL (n : Nat) (F : List UInt8) (D : List Drt) (at_ : Int) : List UInt8 := if rightB n D = true ∧ 0 ≤ at_ ∧ at_ < n then seg (app F D) (at_.toNat * 64) 64 else List.replicate 64 0

def z64L : List UInt8 := List.replicate 64 0
theorem z64L_is : (Array.replicate 64 (Value.int .u8 0)).toList = bv z64L := by rw [z64L, bv_replicate]; simp

end Go.Proofs.Ytoflkbilkkfekaa

namespace Go.Proofs.Ytoflkbilkkfekaa
open Go.ChangeShapes Go.WideShapes Go.ChangeAt Go.RowKit
set_option linter.unusedVariables false
set_option linter.unusedSimpArgs false

def inR (f t : Int) (d : Drt) : Bool := decide (f ≤ d.1 ∧ d.1 < t)

end Go.Proofs.Ytoflkbilkkfekaa

namespace Go.Proofs.Ytoflkbilkkfekaa
open Go.ChangeShapes Go.WideShapes Go.ChangeAt Go.RowKit
set_option linter.unusedVariables false
set_option linter.unusedSimpArgs false

def flushOk (n : Nat) (at_ m : Int) : Bool := decide (0 ≤ at_ ∧ 0 ≤ m ∧ at_ ≤ n)
def flushTo (n : Nat) (at_ m : Int) : Int := if m = 0 ∨ (n : Int) - at_ < m then n else at_ + m
def flushE (n : Nat) (D : List Drt) (at_ m : Int) : Int := if rightB n D then (if flushOk n at_ m then 0 else 5) else 1
def flushF (n : Nat) (F : List UInt8) (D : List Drt) (at_ m : Int) : List UInt8 := if flushE n D at_ m = 0 then app F (D.filter (inR at_ (flushTo n at_ m))) else []
def flushD (n : Nat) (D : List Drt) (at_ m : Int) : List Drt := if flushE n D at_ m = 0 then D.filter (fun d => !inR at_ (flushTo n at_ m) d) else []
def flushN (n : Nat) (D : List Drt) (at_ m : Int) : Nat := if flushE n D at_ m = 0 then n else 0

theorem Med.nil (w : World) : Med w (.agg #[.slice none 0 0, .slice none 0 0]) 0 [] [] := ⟨_, _, rfl, Rw.nil 64 w, Rw.nil 65 w, fun d hd => by cases hd⟩
theorem Ok.filter {D : List Drt} (h : Ok D) (p : Drt → Bool) : Ok (D.filter p) := fun d hd => h d (List.mem_filter.1 hd).1

end Go.Proofs.Ytoflkbilkkfekaa

namespace Go.Proofs.Ytoflkbilkkfekaa
open Go.ChangeShapes Go.WideShapes Go.ChangeAt Go.RowKit
set_option linter.unusedVariables false
set_option linter.unusedSimpArgs false

def pickM : List Drt → Nat → List Drt
  | [], _ => []
  | d :: D, m => if m % 2 = 1 then d :: pickM D (m / 2) else pickM D (m / 2)
theorem pickM_snoc : ∀ (D : List Drt) (m : Nat) (d : Drt), pickM (D ++ [d]) m = pickM D m ++ (if m / 2 ^ D.length % 2 = 1 then [d] else [])
  | [], m, d => by simp [pickM]
  | x :: D, m, d => by
    have := pickM_snoc D (m / 2) d
    simp only [List.cons_append, pickM, this, List.length_cons, Nat.pow_succ, Nat.mul_comm (2 ^ D.length) 2, ← Nat.div_div_eq_div_mul]
    split <;> simp
theorem pickM_mem {d : Drt} : ∀ {D : List Drt} {m : Nat}, d ∈ pickM D m → d ∈ D
  | [], _, h => by simp [pickM] at h
  | x :: D, m, h => by
    unfold pickM at h
    split at h
    · rcases List.mem_cons.1 h with rfl | h
      · simp
      · exact List.mem_cons_of_mem _ (pickM_mem h)
    · exact List.mem_cons_of_mem _ (pickM_mem h)

def loseE (n : Nat) (D : List Drt) : Int := if rightB n D then 0 else 1
def loseF (n : Nat) (F : List UInt8) (D : List Drt) (mask : Nat) : List UInt8 := if rightB n D then app F (pickM D mask) else []
def loseN (n : Nat) (D : List Drt) : Nat := if rightB n D then n else 0

end Go.Proofs.Ytoflkbilkkfekaa
