import Derived.Test.YtfakboehmcimpaaGreatMAL
import Derived.Test.YtfakboehmcimpaaGreatMAK
import Derived.Test.YtfakboehmcimpaaGreatMAE
import Derived.Test.YtfakboehmcimpaaGreatMAF
namespace Go.Proofs.YtfakboehmcimpaaGreat
open Go Go.RowKit
set_option linter.unusedVariables false
set_option maxRecDepth 4000
set_option linter.unusedSimpArgs false
/-! As RegO, with whatever is kept (I) in place of what is later than b0. -/
section
variable {P : Program} {ops : Array Oper} {md : Region.Mode} {I : World → Prop}
/-- a world that keeps I -/
structure Held (I : World → Prop) where
  w : World
  h : I w
def Oper.mildI (P : Program) (I : World → Prop) (o : Oper) (a : Act) (next : Act → Prop) : Prop :=
  ∃ v, (∀ p : Held I, Oper.mildUpon P p.w v ((execOp a.eval o).run P p.w)) ∧ next (a.put o.dst v)
def GivesI (P : Program) (ops : Array Oper) (I : World → Prop) (o : Oper) (v : Value) (a : Act) : Prop :=
  (Region.wanted o (yielded ops a.tmps) = true ∧ ∀ p : Held I, Oper.mildUpon P p.w v ((execOp a.eval o).run P p.w)) ∨
  (Region.wanted o (yielded ops a.tmps) = false ∧ v = undef)
theorem GivesI.of_same {o : Oper} {v : Value} {a a' : Act} (hy : GivesI P ops I o v a) (he : execOp a'.eval o = execOp a.eval o)
    (hw : Region.wanted o (yielded ops a'.tmps) = Region.wanted o (yielded ops a.tmps)) : GivesI P ops I o v a' := by
  unfold GivesI at *
  rw [he, hw]
  exact hy
def Oper.heldUpon (P : Program) (I : World → Prop) (o : Oper) (a : Act) (w : World) (K : Act → World → Prop) : Result Next → Prop
  | .ok (.value u) w' => I w' ∧ K (a.put o.dst u) w'
  | .ok .skip w' => I w' ∧ K (a.put o.dst undef) w'
  | .ok (.enter f args) w' => w' = w ∧ Calls P f args w (fun e w'' => ∃ u, e = .returned u ∧ I w'' ∧ K (a.put o.dst u) w'')
  | _ => False
def jOp (P : Program) (ops : Array Oper) (I : World → Prop) (i : Nat) (K : Act → World → Prop) (a : Act) (w : World) : Prop :=
  match ops[i]? with
  | none => False
  | some o => if Region.wanted o (yielded ops a.tmps) then Oper.heldUpon P I o a w K ((execOp a.eval o).run P w) else K (a.put o.dst undef) w
theorem Oper.heldUpon_mono {o : Oper} {a : Act} {w : World} {K K' : Act → World → Prop} (h : ∀ a w', I w' → K a w' → K' a w') : ∀ r, Oper.heldUpon P I o a w K r → Oper.heldUpon P I o a w K' r
  | .ok (.value u) w', hh => ⟨hh.1, h _ _ hh.1 hh.2⟩
  | .ok .skip w', hh => ⟨hh.1, h _ _ hh.1 hh.2⟩
  | .ok (.enter f args) w', hh => ⟨hh.1, hh.2.mono fun e w'' ⟨u, he, hl, hk⟩ => ⟨u, he, hl, h _ _ hl hk⟩⟩
  | .ok (.defer _) _, hh => hh.elim
  | .ok (.row _ _) _, hh => hh.elim
  | .halt _ _, hh => hh.elim
theorem jOp_mono {i : Nat} {a : Act} {w : World} {K K' : Act → World → Prop} (hw0 : I w) (h : ∀ a w', I w' → K a w' → K' a w') (hh : jOp P ops I i K a w) : jOp P ops I i K' a w := by
  unfold jOp at *
  split
  · rename_i ho; simp [ho] at hh
  · rename_i o ho
    simp only [ho] at hh
    split
    · rename_i hw; simp only [hw, if_true] at hh; exact Oper.heldUpon_mono h _ hh
    · rename_i hw; simp only [hw] at hh; exact h _ _ hw0 hh
def wpH (P : Program) (md : Region.Mode) (ops : Array Oper) (I : World → Prop) (Q : Act → World → Prop) : Nat → Array Bool → Act → World → Prop
  | 0, listed, a, b => Region.ready md ops listed = [] ∧ ∀ w, Later b w → Q a w
  | n + 1, listed, a, b => ∀ w, Later b w → (Region.ready md ops listed = [] → Q a w) ∧ ∀ i ∈ Region.ready md ops listed, jOp P ops I i (fun a' w' => wpH P md ops I Q n (listed.setIfInBounds i true) a' w') a w
theorem wpH_base {Q : Act → World → Prop} {b c : World} (hl : Later b c) : ∀ (n : Nat) (listed : Array Bool) (a : Act), wpH P md ops I Q n listed a b → wpH P md ops I Q n listed a c
  | 0, _, _, h => ⟨h.1, fun w hw => h.2 w (hl.trans hw)⟩
  | _ + 1, _, _, h => fun w hw => h w (hl.trans hw)
theorem wpOp_of_jOp {Q' : Exit → Act → World → Prop} {i : Nat} {a : Act} {w : World} {K : Act → World → Prop} (h : jOp P ops I i K a w) : wpOp P ops Q' i K a w := by
  unfold jOp at h
  unfold wpOp
  split
  · rename_i ho; simp [ho] at h
  · rename_i o ho
    simp only [ho] at h
    split
    · rename_i hw
      simp only [hw, if_true] at h
      refine .inl ?_
      unfold Go.Oper.wp
      generalize (execOp a.eval o).run P w = r at *
      cases r with
      | ok n w' =>
        cases n <;> simp only [Oper.heldUpon] at h <;> simp only [Go.Oper.upon]
        case value u => exact h.2
        case skip => exact h.2
        case enter f args =>
          obtain ⟨rfl, hc⟩ := h
          exact hc.mono fun e w'' ⟨u, he, _, hk⟩ => by subst he; exact hk
      | halt x w' => simp only [Oper.heldUpon] at h
    · rename_i hw; simp only [hw] at h; exact h
theorem wpAny_of_wpH {Q : Act → World → Prop} {Q' : Exit → Act → World → Prop} (hQ : ∀ a w, Q a w → Q' .normal a w) : ∀ (n : Nat) (listed : Array Bool) (a : Act) (w : World), wpH P md ops I Q n listed a w → wpAny P md ops Q' n listed a w
  | 0, _, _, w, h => ⟨h.1, hQ _ _ (h.2 w (Later.refl _))⟩
  | n + 1, _, _, w, h => ⟨fun h0 => hQ _ _ ((h w (Later.refl _)).1 h0), fun i hi => wpOp_mono (fun a' w' h' => wpAny_of_wpH hQ n _ a' w' h') (wpOp_of_jOp ((h w (Later.refl _)).2 i hi))⟩
theorem GivesI.jOp (hI : ∀ w w', Later w w' → I w → I w') {w : World} {i : Nat} {o : Oper} {v : Value} {a : Act} (hi : ops[i]? = some o) (hy : GivesI P ops I o v a) (hw : I w) {K : Act → World → Prop} (h : ∀ w', Later w w' → K (a.put o.dst v) w') : jOp P ops I i K a w := by
  unfold Go.Proofs.YtfakboehmcimpaaGreat.jOp
  simp only [hi]
  rcases hy with ⟨hwt, hv⟩ | ⟨hwt, rfl⟩
  · simp only [hwt, if_true]
    have hv := hv ⟨w, hw⟩
    generalize (execOp a.eval o).run P w = r at *
    cases r with
    | ok n w' =>
      cases n <;> simp only [Oper.mildUpon] at hv <;> simp only [Oper.heldUpon]
      case value u => obtain ⟨rfl, rfl⟩ := hv; exact ⟨hw, h _ (Later.refl _)⟩
      case skip => obtain ⟨rfl, rfl⟩ := hv; exact ⟨hw, h _ (Later.refl _)⟩
      case enter f args => exact ⟨hv.1, hv.2.mono fun e w'' ⟨he, hl⟩ => ⟨v, he, hI _ _ hl hw, h _ hl⟩⟩
    | halt x w' => simp only [Oper.mildUpon] at hv
  · simp only [hwt, Bool.false_eq_true, if_false]; exact h _ (Later.refl _)
theorem jOp_put {w : World} {j : Nat} {oi oj : Oper} {v : Value} (hj : ops[j]? = some oj) (hap : oi.apart ops oj = true)
    (hsi : ∀ cs d, oi.op ≠ .select cs d) (hsj : ∀ cs d, oj.op ≠ .select cs d) {K : Act → World → Prop} {a : Act}
    (hy : GivesI P ops I oi v a) (h : jOp P ops I j K (a.put oi.dst v) w) :
    jOp P ops I j (fun a' w' => GivesI P ops I oi v a' ∧ K (a'.put oi.dst v) w') a w := by
  obtain ⟨h1, h2, h3⟩ := Oper.apart_spec hap
  have keep : ∀ u, GivesI P ops I oi v (a.put oj.dst u) := fun u => hy.of_same (execOp_put oi hsi a oj.dst u h3) (wanted_put oi a oj.dst u h3)
  unfold Go.Proofs.YtfakboehmcimpaaGreat.jOp at *
  simp only [hj] at *
  rw [wanted_put oj a oi.dst v h1] at h
  split
  · rename_i hw
    simp only [hw, if_true] at h
    rw [execOp_put oj hsj a oi.dst v h1] at h
    generalize (execOp a.eval oj).run P w = r at *
    cases r with
    | ok n w' =>
      cases n <;> simp only [Oper.heldUpon] at h ⊢
      case value u => exact ⟨h.1, keep u, by rw [← Act.put_comm a v u h2]; exact h.2⟩
      case skip => exact ⟨h.1, keep _, by rw [← Act.put_comm a v undef h2]; exact h.2⟩
      case enter f args => exact ⟨h.1, h.2.mono fun e w'' ⟨u, he, hl, hk⟩ => ⟨u, he, hl, keep u, by rw [← Act.put_comm a v u h2]; exact hk⟩⟩
    | halt x w' => simp only [Oper.heldUpon] at h
  · rename_i hw
    simp only [hw] at h
    exact ⟨keep _, by rw [← Act.put_comm a v undef h2]; exact h⟩
theorem wpH_first (hI : ∀ w w', Later w w' → I w → I w') {Q : Act → World → Prop} {i : Nat} {oi : Oper} {v : Value} (hi : ops[i]? = some oi) (hsel : ∀ (j : Nat) (o : Oper) cs d, ops[j]? = some o → o.op ≠ .select cs d) :
    ∀ (n : Nat) (listed : Array Bool) (a : Act) (b : World), I b →
      (∀ j oj, ops[j]? = some oj → j ≠ i → listed.getD j true = false → (∀ e ∈ oj.after, Region.binds md e = true → e.on ≠ i) → oi.apart ops oj = true) →
      i ∈ Region.ready md ops listed → GivesI P ops I oi v a →
      wpH P md ops I Q n (listed.setIfInBounds i true) (a.put oi.dst v) b → wpH P md ops I Q (n + 1) listed a b := by
  intro n
  induction n with
  | zero =>
    intro listed a b hb _ hr hy H w hw
    refine ⟨fun h => (by rw [h] at hr; cases hr), fun j hj => ?_⟩
    by_cases hji : j = i
    · subst hji; exact hy.jOp hI hi (hI _ _ hw hb) fun w' hw' => wpH_base (hw.trans hw') 0 _ _ H
    · have := ready_mono hj hji
      rw [H.1] at this
      cases this
  | succ n ih =>
    intro listed a b hb hfree hr hy H w hw
    refine ⟨fun h => (by rw [h] at hr; cases hr), fun j hj => ?_⟩
    by_cases hji : j = i
    · subst hji; exact hy.jOp hI hi (hI _ _ hw hb) fun w' hw' => wpH_base (hw.trans hw') (n + 1) _ _ H
    · have h1 := (H w hw).2 j (ready_mono hj hji)
      obtain ⟨hjun, oj, hoj, hall⟩ := mem_ready.1 hj
      have hnot : ∀ e ∈ oj.after, Region.binds md e = true → e.on ≠ i := fun e he hb heq => by
        have h1 := hall e he hb
        have h0 := (mem_ready.1 hr).1
        rw [heq] at h1
        rcases Nat.lt_or_ge i listed.size with h' | h'
        · simp [h'] at h0 h1; rw [h0] at h1; cases h1
        · simp [Array.getElem?_eq_none h'] at h1
      have h2 := jOp_put hoj (hfree j oj hoj hji hjun hnot) (fun cs d => hsel i oi cs d hi) (fun cs d => hsel j oj cs d hoj) hy h1
      have hfree' : ∀ k ok, ops[k]? = some ok → k ≠ i → (listed.setIfInBounds j true).getD k true = false →
          (∀ e ∈ ok.after, Region.binds md e = true → e.on ≠ i) → oi.apart ops ok = true := fun k ok hk hki hun hno => by
        refine hfree k ok hk hki ?_ hno
        by_cases hjk : j = k
        · subst hjk; exact hjun
        · rw [getD_set_ne true hjk] at hun; exact hun
      refine jOp_mono (hI _ _ hw hb) (fun a' w' hl h3 => ih (listed.setIfInBounds j true) a' w' hl hfree' (ready_mono hr (Ne.symm hji)) h3.1 ?_) h2
      rw [Array.setIfInBounds_comm _ _ hji]
      exact h3.2
/-- the walk along one order: false: one value in every world later than b0; true: what alone may come up -/
def wpJ (P : Program) (ops : Array Oper) (I : World → Prop) (Q : Act → World → Prop) : List (Nat × Bool) → Act → World → Prop
  | [], a, b => ∀ w, Later b w → Q a w
  | (i, false) :: σ, a, b => ∃ o, ops[i]? = some o ∧ if Region.wanted o (yielded ops a.tmps) then Oper.mildI P I o a (fun a' => wpJ P ops I Q σ a' b) else wpJ P ops I Q σ (a.put o.dst undef) b
  | (i, true) :: σ, a, b => ∀ w, Later b w → jOp P ops I i (fun a' w' => wpJ P ops I Q σ a' w') a w
theorem wpH_of_wpJ (hI : ∀ w w', Later w w' → I w → I w') {Q : Act → World → Prop} (hs : Region.noSelect ops = true) : ∀ (σ : List (Nat × Bool)) (listed : Array Bool) (a : Act) (b : World), I b → schedB md ops σ listed = true → wpJ P ops I Q σ a b → wpH P md ops I Q σ.length listed a b
  | [], listed, a, b, _, hB, h => ⟨by simpa [schedB] using hB, h⟩
  | (i, false) :: σ, listed, a, b, hb, hB, h => by
    simp only [schedB, Bool.and_eq_true] at hB
    obtain ⟨o, ho, h⟩ := h
    by_cases hw : Region.wanted o (yielded ops a.tmps) = true
    · simp only [hw, if_true] at h
      obtain ⟨v, hv, hk⟩ := h
      exact wpH_first hI ho (Region.noSelect_spec hs) σ.length listed a b hb (Region.free_spec ho hB.1.2) (by simpa using hB.1.1) (.inl ⟨hw, hv⟩) (wpH_of_wpJ hI hs σ _ _ _ hb hB.2 hk)
    · simp only [hw] at h
      exact wpH_first hI ho (Region.noSelect_spec hs) σ.length listed a b hb (Region.free_spec ho hB.1.2) (by simpa using hB.1.1) (.inr ⟨by simpa using hw, rfl⟩) (wpH_of_wpJ hI hs σ _ _ _ hb hB.2 h)
  | (i, true) :: σ, listed, a, b, hb, hB, h => by
    simp only [schedB, Bool.and_eq_true, beq_iff_eq] at hB
    intro w hw
    refine ⟨fun h0 => (by rw [hB.1] at h0; cases h0), fun j hj => ?_⟩
    rw [hB.1] at hj
    simp at hj
    subst hj
    exact jOp_mono (hI _ _ hw hb) (fun a' w' hl h' => wpH_of_wpJ hI hs σ _ a' w' hl hB.2 h') (h w hw)
/-- A REGION THAT DRAWS ITS ORDER and stores into what is younger than b0. -/
theorem wp_region_held {id : Nat} {Q : Exit → Act → World → Prop} {a : Act} {w : World} {l : List Oper} (I : World → Prop) (hI : ∀ w w', Later w w' → I w → I w') (hb : I w) (σ : List (Nat × Bool)) (hm : P.follows .mixedOrders = true) (hs : Region.noSelect l.toArray = true) (hn : (σ.length == l.length) = true)
    (hB : schedB .any l.toArray σ (Array.replicate l.length false) = true)
    (h : wpJ P l.toArray I (fun a' w' => Q .normal a' w') σ a w.drew) : (Code.region id l.toArray true).wp P Q a w := by
  refine wp_region_any hm ?_
  have h1 := wpH_of_wpJ hI (md := .any) hs σ _ a _ (hI _ _ (Later.refl w).drew hb) hB h
  have h2 := wpAny_of_wpH (Q' := Q) (fun _ _ h => h) _ _ _ _ h1
  have e : l.toArray.size = σ.length := by simp at hn; simp [hn]
  rw [e]
  have e2 : l.length = σ.length := by simp at hn; exact hn.symm
  rw [e2] at h2
  exact h2
theorem wpJ_mild {Q : Act → World → Prop} {i : Nat} {o : Oper} {σ : List (Nat × Bool)} {a : Act} {b : World} (ho : ops[i]? = some o)
    (h : ∀ K : Act → Prop, (∀ a', wpJ P ops I Q σ a' b → K a') → if Region.wanted o (yielded ops a.tmps) then Oper.mildI P I o a K else K (a.put o.dst undef)) : wpJ P ops I Q ((i, false) :: σ) a b := by
  refine ⟨o, ho, ?_⟩
  have := h _ (fun _ h => h)
  split
  · rename_i hw; rw [if_pos hw] at this; exact this
  · rename_i hw; rw [if_neg hw] at this; exact this
theorem wpJ_nil {Q : Act → World → Prop} {a : Act} {b : World} (h : ∀ w, Later b w → Q a w) : wpJ P ops I Q [] a b := h
theorem wpJ_call {Q : Act → World → Prop} {i : Nat} {o : Oper} {σ : List (Nat × Bool)} {a : Act} {b : World} (ho : ops[i]? = some o) (hw : Region.wanted o (yielded ops a.tmps) = true) (f : FuncId) (hp : Plain P f) (xs : List Operand) (ts : Array TypeId) (hop : o.op = .call { callee := .value (.func f), args := xs.toArray, argTypes := ts }) (us : List Value) (hx : xs.map a.eval = us)
    (v : Value) (hc : ∀ w, I w → Calls P f us.toArray w fun e w' => e = .returned v ∧ Later w w')
    (h : wpJ P ops I Q σ (a.put o.dst v) b) : wpJ P ops I Q ((i, false) :: σ) a b := by
  refine ⟨o, ho, ?_⟩
  rw [if_pos hw]
  refine ⟨v, fun p => ?_, h⟩
  rw [run_call f hp xs ts hop us hx]
  exact ⟨rfl, hc p.w p.h⟩
/-- a store of many cells, where it alone may come up -/
theorem wpJ_store {Q : Act → World → Prop} {i : Nat} {o : Oper} {σ : List (Nat × Bool)} {a : Act} {b : World} (ho : ops[i]? = some o) (hgd : o.guard = none) (ty : TypeId) (x y : Operand) (hop : o.op = .store ty x y) (g : Nat) (cells : List Value) (hx : a.eval x = .pointer (some ⟨g, 0, none⟩)) (hy : a.eval y = .agg cells.toArray)
    (hi : (P.info? ty).map (·.size) = some cells.length) (h1 : ∀ v ∈ cells, v.oneCell' = true) (t : TypeId) (cs : List Value) (hB : Box b g t cs) (hl : cells.length ≤ cs.length) (hI2 : ∀ w, Later b w → I (w.setCells g 0 cells))
    (h : ∀ wl, Later b wl → ∀ w', Hid (w' = wl.setCells g 0 cells) → wpJ P ops I Q σ (a.put o.dst undef) w') : wpJ P ops I Q ((i, true) :: σ) a b := by
  intro w hw
  unfold jOp
  simp only [ho]
  rw [if_pos (by simp [Region.wanted, hgd])]
  have hBw := hB.later hw
  have hrun := run_storeAt_mid (P := P) w g 0 ty cells.toArray (by simpa using hBw.there 0 cells.length (by omega)) (by simpa using hi) (all_oneCell_toArray h1)
  have hl0 := hI2 w hw
  have h2 := h w hw _ rfl
  simp [execOp, hop, hx, hy, hrun, Result.andThen, Oper.heldUpon]
  exact ⟨hl0, h2⟩
end
attribute [go_sem] Oper.mildI
end Go.Proofs.YtfakboehmcimpaaGreat

namespace Go.Proofs.YtfakboehmcimpaaGreat
open Go.ChangeShapes Go.WideShapes Go.ChangeAt Go.RowKit
set_option linter.unusedVariables false
set_option maxRecDepth 4000
set_option linter.unusedSimpArgs false
/-! formOf. -/
end Go.Proofs.YtfakboehmcimpaaGreat

namespace Go.Proofs.YtfakboehmcimpaaGreat
open Go.ChangeShapes Go.WideShapes Go.ChangeAt Go.RowKit
set_option linter.unusedVariables false
set_option maxRecDepth 4000
set_option linter.unusedSimpArgs false
/-! allows: is all as it must be? -/
end Go.Proofs.YtfakboehmcimpaaGreat

namespace Go.Proofs.YtfakboehmcimpaaGreat
open Go.ChangeShapes Go.WideShapes Go.ChangeAt Go.RowKit
set_option linter.unusedVariables false
set_option maxRecDepth 4000
set_option linter.unusedSimpArgs false
/-! read: the command that the bytes say. -/
abbrev Cmd := Int × Nat × Int × Int × Int
abbrev cc (c : Cmd) : List Value := [.int .i64 c.1, .int .u64 (c.2.1 : Int), .int .i64 c.2.2.1, .int .i64 c.2.2.2.1, .int .i64 c.2.2.2.2]
abbrev cval (c : Cmd) : Value := .agg #[.int .i64 c.1, .int .u64 (c.2.1 : Int), .int .i64 c.2.2.1, .int .i64 c.2.2.2.1, .int .i64 c.2.2.2.2]
theorem Tryz.info_cmd : (Tryz.prog.info? 36).map (·.size) = some 5 := by kernel_rfl
end Go.Proofs.YtfakboehmcimpaaGreat

namespace Go.Proofs.YtfakboehmcimpaaGreat
open Go.ChangeShapes Go.WideShapes Go.ChangeAt Go.RowKit
set_option linter.unusedVariables false
set_option maxRecDepth 4000
set_option linter.unusedSimpArgs false
/-! Known, Size. -/
end Go.Proofs.YtfakboehmcimpaaGreat

namespace Go.Proofs.YtfakboehmcimpaaGreat
open Go.ChangeShapes Go.WideShapes Go.ChangeAt Go.RowKit
set_option linter.unusedVariables false
set_option maxRecDepth 4000
set_option linter.unusedSimpArgs false
/-! Parse. -/
theorem Box.apart {w : World} {g : Nat} {t : TypeId} {xs : List Value} (h : Box w g t xs) (k : Nat) (hk : g ≠ k) (vs : List Value) (o : Nat) : Box (w.setCells k o vs) g t xs := h.kept (heap_setCells_other w k g hk vs o)
end Go.Proofs.YtfakboehmcimpaaGreat

namespace Go.Proofs.YtfakboehmcimpaaGreat
open Go.ChangeShapes Go.WideShapes Go.ChangeAt Go.RowKit
set_option linter.unusedVariables false
set_option maxRecDepth 4000
set_option linter.unusedSimpArgs false
/-! What the landed slot does, said; proved in P5. -/
def ISyncT : Prop := ∀ (v : Value) (n : Nat) (F : List UInt8) (D : List Drt) (p r l : Bool) (w : World), Slt w v n F D p r l → n ≤ 100 → D.length ≤ 100 →
  Calls Tryz.prog 72 #[v] w fun e w' => ∃ v', e = .returned v' ∧ Later w w' ∧ Slt w' v' n (syncF n F D) (syncD n D) p r l
def IInsertT : Prop := ∀ (v : Value) (n : Nat) (F : List UInt8) (D : List Drt) (p r l : Bool) (w : World), Slt w v n F D p r l → n ≤ 100 → D.length ≤ 100 →
  Calls Tryz.prog 106 #[v] w fun e w' => ∃ v', e = .returned (.tuple #[v', .bool (!p)]) ∧ Later w w' ∧ Slt w' v' n F D true r l
def IUnloadT : Prop := ∀ (v : Value) (n : Nat) (F : List UInt8) (D : List Drt) (p r l : Bool) (w : World), Slt w v n F D p r l → n ≤ 100 → D.length ≤ 100 →
  Calls Tryz.prog 71 #[v] w fun e w' => ∃ v', e = .returned (.tuple #[v', sval (ulS p l)]) ∧ Later w w' ∧ Slt w' v' n (btF p l n F D) (btD p l n D) (p && l) r l
def IKeepT : Prop := ∀ (v : Value) (n : Nat) (F : List UInt8) (D : List Drt) (p r l on : Bool) (w : World), Slt w v n F D p r l → n ≤ 100 → D.length ≤ 100 →
  Calls Tryz.prog 73 #[v, .bool on] w fun e w' => ∃ v', e = .returned (.tuple #[v', sval (readyS p)]) ∧ Later w w' ∧ Slt w' v' n F D p r (if p then on else l)
def IReadyT : Prop := ∀ (v : Value) (n : Nat) (F : List UInt8) (D : List Drt) (p r l : Bool) (w : World), Slt w v n F D p r l →
  Calls Tryz.prog 19 #[v] w fun e w' => e = .returned (sval (readyS p)) ∧ Later w w'
def ICheckT : Prop := ∀ (v : Value) (n : Nat) (F : List UInt8) (D : List Drt) (p r l : Bool) (at_ : Nat) (m : Int) (wr : Bool) (w : World), Slt w v n F D p r l → at_ ≤ 18446744073709551615 → -9223372036854775808 ≤ m → m ≤ 9223372036854775807 → n ≤ 100 → D.length ≤ 100 →
  Calls Tryz.prog 53 #[v, .int .u64 at_, .int .i64 m, .bool wr] w fun e w' => e = .returned (sval (checkS n D p r at_ m wr)) ∧ Later w w'
def IReadT : Prop := ∀ (v : Value) (n : Nat) (F : List UInt8) (D : List Drt) (p r l : Bool) (at_ : Nat) (m : Int) (w : World), Slt w v n F D p r l → at_ ≤ 18446744073709551615 → -9223372036854775808 ≤ m → m ≤ 9223372036854775807 → n ≤ 100 → D.length ≤ 100 →
  Calls Tryz.prog 54 #[v, .int .u64 at_, .int .i64 m] w fun e w' => ∃ v', e = .returned (.tuple #[v', sval (checkS n D p r at_ m false)]) ∧ Later w w' ∧ Bs w' v' (rdL n F D (checkS n D p r at_ m false) at_ m)
section
variable {H : Type} {enc : TypeId × Value → H} {w : World} {r : Reach} {base : Nat} {v : Value} {d : DataW H} {p : List MemPlace}
end
/-- 'x := v', v a slot -/
theorem wpList_newT {w : World} {ops : Array Oper} {rest : List Oper} {o1 o2 : Oper} {a : Act} {Q : Exit → Act → World → Prop} (hg1 : o1.guard = none) (hg2 : o2.guard = none) (h1 : o1.op = .alloc 27) (d : Tmp) (hd : o1.dst = some d) (hd' : d < a.tmps.size) (y : Operand) (hy' : y ≠ .tmp d) (h2 : o2.op = .store 27 (.tmp d) y)
    (x1 x2 : Option Addr) (n1 c1 n2 c2 : Nat) (p r l : Bool) (hy : a.eval y = .agg #[.slice x1 n1 c1, .slice x2 n2 c2, .bool p, .bool r, .bool l])
    (h : ∀ (g : Nat) (w' : World), Box w' g 27 (tc (.slice x1 n1 c1) (.slice x2 n2 c2) p r l) → Later w w' → Hid (g = w.heap.size ∧ w' = w.alloc (.cells (tc (.slice x1 n1 c1) (.slice x2 n2 c2) p r l).toArray 27)) → wpList Tryz.prog ops Q rest ((a.put (some d) (.pointer (some ⟨g, 0, none⟩))).put o2.dst undef) w') : wpList Tryz.prog ops Q (o1 :: o2 :: rest) a w :=
  wpList_new hg1 hg2 27 h1 d hd hd' y hy' h2 #[.slice none 0 0, .slice none 0 0, .bool false, .bool false, .bool false] (tc (.slice x1 n1 c1) (.slice x2 n2 c2) p r l) Tryz.zero_slot rfl hy (tc_one _ _ _ _ _ _ _ _ _) h
end Go.Proofs.YtfakboehmcimpaaGreat

namespace Go.Proofs.YtfakboehmcimpaaGreat
open Go.ChangeShapes Go.WideShapes Go.ChangeAt Go.RowKit
set_option linter.unusedVariables false
set_option maxRecDepth 4000
set_option linter.unusedSimpArgs false
/-! 'x, e := F(..)', x a struct, in a region that draws its order: the call, its parts, the new variable, the store. -/
def ptr (g : Nat) : Value := .pointer (some ⟨g, 0, none⟩)
theorem run_extract {P : Program} {o : Oper} {a : Act} (x : Operand) (n : Nat) (hop : o.op = .extract x n) (vs : Array Value) (v : Value) (hx : a.eval x = .tuple vs) (hv : vs[n]? = some v) (w : World) : (execOp a.eval o).run P w = .ok (.value v) w := by
  simp [execOp, hop, hx, Instr.extract, hv, Result.andThen]
theorem run_assign {P : Program} {o : Oper} {a : Act} (x : Operand) (hop : o.op = .assign x) (v : Value) (hx : a.eval x = v) (w : World) : (execOp a.eval o).run P w = .ok (.value v) w := by
  simp [execOp, hop, hx, Result.andThen]
theorem run_alloc {P : Program} {o : Oper} {a : Act} (ty : TypeId) (hop : o.op = .alloc ty) (z : Array Value) (n : Nat) (hz : (P.info? ty).map (fun i => (i.zero, i.size)) = some (some (.agg z), n)) (w : World) : (execOp a.eval o).run P w = .ok (.value (ptr w.heap.size)) (w.alloc (.cells z ty)) := by
  obtain ⟨hzv, hsz⟩ := zero_of_info hz
  simp [execOp, hop, Instr.alloc, hzv, Result.andThen, newVar, newRow, Value.cells, ptr]
theorem dstOf_of {ops : Array Oper} {i : Nat} {o : Oper} {d : Option Tmp} (h : ops[i]? = some o) (hd : o.dst = d) : dstOf ops i = d := by simp [dstOf, h, hd]
theorem eval_put_ne {a : Act} {d t : Tmp} {v : Value} (h : t ≠ d) : (a.put (some d) v).eval (.tmp t) = a.eval (.tmp t) := Act.eval_put fun x hx e => by
  cases hx
  simp at e
  exact h e
theorem put_size (a : Act) (d : Option Tmp) (v : Value) : (a.put d v).tmps.size = a.tmps.size := by
  cases d <;> simp [Act.put]
end Go.Proofs.YtfakboehmcimpaaGreat

namespace Go.Proofs.YtfakboehmcimpaaGreat
open Go.ChangeShapes Go.WideShapes Go.ChangeAt Go.RowKit
set_option linter.unusedVariables false
set_option maxRecDepth 4000
set_option linter.unusedSimpArgs false
/-! 'x, y := f(..)' with structs; a sense's variable lies apart from a medium. -/
theorem put_none (a : Act) (v : Value) : a.put none v = a := rfl
theorem eval_put_other {a : Act} {d : Tmp} {v : Value} {y : Operand} (h : y ≠ .tmp d) : (a.put (some d) v).eval y = a.eval y :=
  Act.eval_put fun t ht e => h (by rw [e]; cases ht; rfl)
theorem wpList_alloc1 {P : Program} {w : World} {ops : Array Oper} {rest : List Oper} {o : Oper} {a : Act} {Q : Exit → Act → World → Prop} (hg : o.guard = none) (ty : TypeId) (h1 : o.op = .alloc ty) (z : Array Value) (n : Nat) (hz : (P.info? ty).map (fun i => (i.zero, i.size)) = some (some (.agg z), n))
    (h : wpList P ops Q rest (a.put o.dst (.pointer (some ⟨w.heap.size, 0, none⟩))) (w.alloc (.cells z ty))) : wpList P ops Q (o :: rest) a w := by
  refine wpList_plain hg fun K hK => ?_
  unfold Go.Oper.wp
  rw [run_alloc ty h1 z n hz w]
  exact hK _ _ h
/-- 'x, y := f(..)', both structs: two variables of their own -/
theorem wpList_new2 {P : Program} {w : World} {ops : Array Oper} {rest : List Oper} {o1 o2 o3 o4 : Oper} {a : Act} {Q : Exit → Act → World → Prop} (hg1 : o1.guard = none) (hg2 : o2.guard = none) (hg3 : o3.guard = none) (hg4 : o4.guard = none)
    (t1 t2 : TypeId) (h1 : o1.op = .alloc t1) (h2 : o2.op = .alloc t2) (d1 d2 : Tmp) (hd1 : o1.dst = some d1) (hd2 : o2.dst = some d2) (hs1 : d1 < a.tmps.size) (hs2 : d2 < a.tmps.size) (hne : d1 ≠ d2) (y1 y2 : Operand) (hy1 : y1 ≠ .tmp d1) (hy1' : y1 ≠ .tmp d2) (hy2 : y2 ≠ .tmp d1) (hy2' : y2 ≠ .tmp d2)
    (h3 : o3.op = .store t1 (.tmp d1) y1) (h4 : o4.op = .store t2 (.tmp d2) y2) (hd3 : o3.dst = none) (hd4 : o4.dst = none) (z1 z2 : Array Value) (c1 c2 : List Value)
    (hz1 : (P.info? t1).map (fun i => (i.zero, i.size)) = some (some (.agg z1), c1.length)) (hzs1 : z1.size = c1.length) (hz2 : (P.info? t2).map (fun i => (i.zero, i.size)) = some (some (.agg z2), c2.length)) (hzs2 : z2.size = c2.length)
    (e1 : a.eval y1 = .agg c1.toArray) (e2 : a.eval y2 = .agg c2.toArray) (k1 : ∀ v ∈ c1, v.oneCell' = true) (k2 : ∀ v ∈ c2, v.oneCell' = true)
    (h : ∀ (g1 g2 : Nat) (w' : World), Box w' g1 t1 c1 → Box w' g2 t2 c2 → Later w w' → Hid (g1 = w.heap.size ∧ g2 = w.heap.size + 1) → wpList P ops Q rest ((a.put (some d1) (.pointer (some ⟨g1, 0, none⟩))).put (some d2) (.pointer (some ⟨g2, 0, none⟩))) w') : wpList P ops Q (o1 :: o2 :: o3 :: o4 :: rest) a w := by
  refine wpList_alloc1 hg1 t1 h1 z1 _ hz1 ?_
  refine wpList_alloc1 hg2 t2 h2 z2 _ hz2 ?_
  rw [hd1, hd2]
  have hsz : (w.alloc (.cells z1 t1)).heap.size = w.heap.size + 1 := by simp
  rw [hsz]
  have B1 : Box ((w.alloc (.cells z1 t1)).alloc (.cells z2 t2)) w.heap.size t1 z1.toList := (Box.new w t1 z1).alloc _
  have B2 : Box ((w.alloc (.cells z1 t1)).alloc (.cells z2 t2)) (w.heap.size + 1) t2 z2.toList := Box.new' _ _ _ _ rfl _ hsz.symm
  have LL : Later w ((w.alloc (.cells z1 t1)).alloc (.cells z2 t2)) := ((Later.refl w).alloc _).alloc _
  generalize ((w.alloc (.cells z1 t1)).alloc (.cells z2 t2)) = w2 at *
  refine wpList_storeT hg3 t1 (.tmp d1) y1 h3 w.heap.size 0 ?_ c1 ?_ (zero_of_info hz1).2 k1 t1 _ B1 (by simp [hzs1]) ?_
  · rw [eval_put_other (by intro e; cases e; exact hne rfl), put_eval hs1]
  · rw [eval_put_other hy1', eval_put_other hy1, e1]
  intro w3 hw3
  have C1 := B1.all c1 (by simp [hzs1])
  have C2 : Box (w2.setCells w.heap.size 0 c1) (w.heap.size + 1) t2 z2.toList := B2.kept (heap_setCells_other w2 _ _ (by omega) _ _)
  have L3 := LL.setCells (g := w.heap.size) (Nat.le_refl _) c1 0
  rw [← hw3.out] at C1 C2 L3
  rw [hd3, put_none]
  refine wpList_storeT hg4 t2 (.tmp d2) y2 h4 (w.heap.size + 1) 0 ?_ c2 ?_ (zero_of_info hz2).2 k2 t2 _ C2 (by simp [hzs2]) ?_
  · rw [put_eval (by rw [put_size]; exact hs2)]
  · rw [eval_put_other hy2', eval_put_other hy2, e2]
  intro w4 hw4
  have E2 := C2.all c2 (by simp [hzs2])
  have E1 : Box (w3.setCells (w.heap.size + 1) 0 c2) w.heap.size t1 c1 := C1.kept (heap_setCells_other w3 _ _ (by omega) _ _)
  have L4 := L3.setCells (g := w.heap.size + 1) (by omega) c2 0
  rw [← hw4.out] at E1 E2 L4
  rw [hd4, put_none]
  exact h _ _ _ E1 E2 L4 ⟨rfl, rfl⟩
/-- 'x, y := f(..)', y alone a struct: the variable is made, x is set, then y is stored -/
theorem wpList_newA {P : Program} {w : World} {ops : Array Oper} {rest : List Oper} {o1 o2 o3 : Oper} {a : Act} {Q : Exit → Act → World → Prop} (hg1 : o1.guard = none) (hg2 : o2.guard = none) (hg3 : o3.guard = none)
    (t : TypeId) (h1 : o1.op = .alloc t) (d d2 : Tmp) (hd1 : o1.dst = some d) (hd2 : o2.dst = some d2) (hs1 : d < a.tmps.size) (hne : d ≠ d2) (x y : Operand) (hx : x ≠ .tmp d) (hy : y ≠ .tmp d) (hy' : y ≠ .tmp d2)
    (h2 : o2.op = .assign x) (h3 : o3.op = .store t (.tmp d) y) (hd3 : o3.dst = none) (z : Array Value) (c : List Value) (xv : Value)
    (hz : (P.info? t).map (fun i => (i.zero, i.size)) = some (some (.agg z), c.length)) (hzs : z.size = c.length) (ex : a.eval x = xv) (e : a.eval y = .agg c.toArray) (k : ∀ v ∈ c, v.oneCell' = true)
    (h : ∀ (g : Nat) (w' : World), Box w' g t c → Later w w' → Hid (g = w.heap.size) → wpList P ops Q rest ((a.put (some d) (.pointer (some ⟨g, 0, none⟩))).put (some d2) xv) w') : wpList P ops Q (o1 :: o2 :: o3 :: rest) a w := by
  refine wpList_alloc1 hg1 t h1 z _ hz ?_
  rw [hd1]
  refine wpList_plain hg2 fun K hK => ?_
  unfold Go.Oper.wp
  rw [run_assign x h2 xv (by rw [eval_put_other hx, ex])]
  refine hK _ _ ?_
  rw [hd2]
  have B1 : Box (w.alloc (.cells z t)) w.heap.size t z.toList := Box.new w t z
  have LL : Later w (w.alloc (.cells z t)) := (Later.refl w).alloc _
  generalize (w.alloc (.cells z t)) = w2 at *
  refine wpList_storeT hg3 t (.tmp d) y h3 w.heap.size 0 ?_ c ?_ (zero_of_info hz).2 k t _ B1 (by simp [hzs]) ?_
  · rw [eval_put_other (by intro e; cases e; exact hne rfl), put_eval hs1]
  · rw [eval_put_other hy', eval_put_other hy, e]
  intro w3 hw3
  have C1 := B1.all c (by simp [hzs])
  have L3 := LL.setCells (g := w.heap.size) (Nat.le_refl _) c 0
  rw [← hw3.out] at C1 L3
  rw [hd3, put_none]
  exact h _ _ C1 L3 rfl
/-- 'x, y := f(..)', a slot and a sense -/
theorem wpList_newTS {w : World} {ops : Array Oper} {rest : List Oper} {o1 o2 o3 o4 : Oper} {a : Act} {Q : Exit → Act → World → Prop} (hg1 : o1.guard = none) (hg2 : o2.guard = none) (hg3 : o3.guard = none) (hg4 : o4.guard = none)
    (h1 : o1.op = .alloc 27) (h2 : o2.op = .alloc 30) (d1 d2 : Tmp) (hd1 : o1.dst = some d1) (hd2 : o2.dst = some d2) (hs1 : d1 < a.tmps.size) (hs2 : d2 < a.tmps.size) (hne : d1 ≠ d2) (y1 y2 : Operand) (hy1 : y1 ≠ .tmp d1) (hy1' : y1 ≠ .tmp d2) (hy2 : y2 ≠ .tmp d1) (hy2' : y2 ≠ .tmp d2)
    (h3 : o3.op = .store 27 (.tmp d1) y1) (h4 : o4.op = .store 30 (.tmp d2) y2) (hd3 : o3.dst = none) (hd4 : o4.dst = none)
    (x1 x2 : Option Addr) (n1 c1 n2 c2 : Nat) (p r l : Bool) (s : Sns) (e1 : a.eval y1 = .agg #[.slice x1 n1 c1, .slice x2 n2 c2, .bool p, .bool r, .bool l]) (e2 : a.eval y2 = sval s)
    (h : ∀ (g1 g2 : Nat) (w' : World), Box w' g1 27 (tc (.slice x1 n1 c1) (.slice x2 n2 c2) p r l) → Box w' g2 30 (sc s) → Later w w' → Hid (g1 = w.heap.size ∧ g2 = w.heap.size + 1) → wpList Tryz.prog ops Q rest ((a.put (some d1) (.pointer (some ⟨g1, 0, none⟩))).put (some d2) (.pointer (some ⟨g2, 0, none⟩))) w') : wpList Tryz.prog ops Q (o1 :: o2 :: o3 :: o4 :: rest) a w :=
  wpList_new2 hg1 hg2 hg3 hg4 27 30 h1 h2 d1 d2 hd1 hd2 hs1 hs2 hne y1 y2 hy1 hy1' hy2 hy2' h3 h4 hd3 hd4 #[.slice none 0 0, .slice none 0 0, .bool false, .bool false, .bool false] #[.int .i64 0, .int .i64 0, .int .i64 0] (tc (.slice x1 n1 c1) (.slice x2 n2 c2) p r l) (sc s) Tryz.zero_slot rfl Tryz.zero_sense rfl e1 e2 (tc_one _ _ _ _ _ _ _ _ _) (sc_one s) h
/-- 'x, y := f(..)', a value of one cell and a sense -/
theorem wpList_newAS {w : World} {ops : Array Oper} {rest : List Oper} {o1 o2 o3 : Oper} {a : Act} {Q : Exit → Act → World → Prop} (hg1 : o1.guard = none) (hg2 : o2.guard = none) (hg3 : o3.guard = none)
    (h1 : o1.op = .alloc 30) (d d2 : Tmp) (hd1 : o1.dst = some d) (hd2 : o2.dst = some d2) (hs1 : d < a.tmps.size) (hne : d ≠ d2) (x y : Operand) (hx : x ≠ .tmp d) (hy : y ≠ .tmp d) (hy' : y ≠ .tmp d2)
    (h2 : o2.op = .assign x) (h3 : o3.op = .store 30 (.tmp d) y) (hd3 : o3.dst = none) (xv : Value) (s : Sns) (ex : a.eval x = xv) (e : a.eval y = sval s)
    (h : ∀ (g : Nat) (w' : World), Box w' g 30 (sc s) → Later w w' → Hid (g = w.heap.size) → wpList Tryz.prog ops Q rest ((a.put (some d) (.pointer (some ⟨g, 0, none⟩))).put (some d2) xv) w') : wpList Tryz.prog ops Q (o1 :: o2 :: o3 :: rest) a w :=
  wpList_newA hg1 hg2 hg3 30 h1 d d2 hd1 hd2 hs1 hne x y hx hy hy' h2 h3 hd3 #[.int .i64 0, .int .i64 0, .int .i64 0] (sc s) xv Tryz.zero_sense rfl ex e (sc_one s) h
/-- a medium's rows lie in no sense -/
theorem Rw.setApart {sz : Nat} {w : World} {v : Value} {n : Nat} {xs : List Value} {g : Nat} {ty : TypeId} {cs : List Value} (h : Rw sz w v n xs) (j : Nat) (hB : Box w g ty cs) (hc : 0 < n → ∃ u, xs[j]? = some u ∧ u ∉ cs) (vs : List Value) (o : Nat) : Rw sz (w.setCells g o vs) v n xs := by
  obtain ⟨h1, h2, a, cap, rfl, hcap, h3⟩ := h
  refine ⟨h1, h2, a, cap, rfl, hcap, ?_⟩
  by_cases hn : n = 0
  · exact .inl hn
  rcases h3 with h3 | ⟨b, off, rfl, hr⟩
  · exact .inl h3
  · refine .inr ⟨b, off, rfl, ?_⟩
    obtain ⟨u, hu, hnu⟩ := hc (by omega)
    have hne : b ≠ g := fun e => by
      subst e
      have h4 := hr j u hu
      rw [hB.cell] at h4
      exact hnu (List.mem_of_getElem? h4)
    intro j u hu
    rw [← hr j u hu]
    simp only [World.cell?, heap_setCells_other w g b hne]
end Go.Proofs.YtfakboehmcimpaaGreat

namespace Go.Proofs.YtfakboehmcimpaaGreat
open Go.ChangeShapes Go.WideShapes Go.ChangeAt Go.RowKit
set_option linter.unusedVariables false
set_option maxRecDepth 4000
set_option linter.unusedSimpArgs false
/-! Two commands held against one another. -/
theorem map_five {α β : Type} {f : α → β} {l : List α} {x y z u v : β} (h : l.map f = [x, y, z, u, v]) : ∃ a b c d e, l = [a, b, c, d, e] ∧ f a = x ∧ f b = y ∧ f c = z ∧ f d = u ∧ f e = v := by
  match l, h with
  | [a, b, c, d, e], h => simp at h; exact ⟨a, b, c, d, e, rfl, h.1, h.2.1, h.2.2.1, h.2.2.2.1, h.2.2.2.2⟩
  | [_], h => simp at h
  | [_, _], h => simp at h
  | [_, _, _], h => simp at h
  | [_, _, _, _], h => simp at h
  | _ :: _ :: _ :: _ :: _ :: _ :: _, h => simp at h
theorem eqFields_cons {P : Program} (w : World) (d : Nat) (xs ys : Array Value) (f : Field) (fs : List Field) (hf : f.name ≠ "_") (a b : Value) (r r' : Bool)
    (p1 : (part f.type xs f.offset).run P w = .ok a w) (p2 : (part f.type ys f.offset).run P w = .ok b w) (p3 : (Op.equalIn d f.type a b).run P w = .ok r w)
    (ih : (Op.eqFields d xs ys fs).run P w = .ok r' w) : (Op.eqFields d xs ys (f :: fs)).run P w = .ok (r && r') w := by
  simp only [Op.eqFields, hf, ne_eq, not_false_eq_true, if_true, Sem.run_bind, p1, p2, p3, Result.andThen_ok]
  cases r <;> simp [ih]
theorem eqFields_nil {P : Program} (w : World) (d : Nat) (xs ys : Array Value) : (Op.eqFields d xs ys []).run P w = .ok true w := by simp [Op.eqFields]
theorem part_cellU {P : Program} {t : TypeId} {k : IntKind} (w : World) (ht : P.underlying t = some (.int k)) (cs : Array Value) (o : Nat) (v : Value) (h : cs[o]? = some v) : (part t cs o).run P w = .ok v w := by
  simp [part, isAgg, run_underlying ht, h]
theorem Tryz.fields_cmd : (Tryz.prog.fieldsOf 36).toList.map (fun f => (f.name, f.type, f.offset)) = [("Op", 3, 0), ("At", 34, 1), ("N", 3, 2), ("Page", 3, 3), ("Bits", 3, 4)] := by kernel_rfl
theorem Tryz.is_cmd : Tryz.prog.underlying 36 = some (.struct (Tryz.prog.fieldsOf 36)) := by kernel_rfl
theorem Tryz.plain_cmd : Tryz.prog.stoodInHeld 36 = false := by kernel_rfl
theorem Tryz.guard_cmd : Tryz.prog.eqGuardType Tryz.prog.depth 36 = false := by kernel_rfl
theorem cmd_beq (s t : Cmd) : (s == t) = (decide (s.1 = t.1) && (decide ((s.2.1 : Int) = (t.2.1 : Int)) && (decide (s.2.2.1 = t.2.2.1) && (decide (s.2.2.2.1 = t.2.2.2.1) && (decide (s.2.2.2.2 = t.2.2.2.2) && true))))) := by
  obtain ⟨a, b, c, d, e⟩ := s
  obtain ⟨a', b', c', d', e'⟩ := t
  rw [Bool.eq_iff_iff]
  simp
  intros
  omega
theorem cmd_eq (s t : Cmd) (w : World) : (Op.equalIn 10000 36 (cval s) (cval t)).run Tryz.prog w = .ok (s == t) w := by
  refine (run_equalIn_struct w 9999 36 _ _ Tryz.is_cmd Tryz.plain_cmd).trans ?_
  obtain ⟨f, g, h, i, j, hfs, hf, hg, hh, hi, hj⟩ := map_five Tryz.fields_cmd
  rw [hfs, cmd_beq]
  simp only [Prod.mk.injEq] at hf hg hh hi hj
  obtain ⟨n1, t1, o1⟩ := hf
  obtain ⟨n2, t2, o2⟩ := hg
  obtain ⟨n3, t3, o3⟩ := hh
  obtain ⟨n4, t4, o4⟩ := hi
  obtain ⟨n5, t5, o5⟩ := hj
  have ki : ∀ x y : Int, (Op.equalIn 9999 3 (.int .i64 x) (.int .i64 y)).run Tryz.prog w = .ok (decide (x = y)) w := fun x y => run_equalIn_int (P := Tryz.prog) w 9998 3 .i64 .i64 x y Tryz.underlying3
  have ku : ∀ x y : Int, (Op.equalIn 9999 34 (.int .u64 x) (.int .u64 y)).run Tryz.prog w = .ok (decide (x = y)) w := fun x y => run_equalIn_int (P := Tryz.prog) w 9998 34 .u64 .u64 x y Tryz.underlying34
  refine eqFields_cons w 9999 _ _ f _ (by rw [n1]; decide) (.int .i64 s.1) (.int .i64 t.1) _ _ (by rw [t1, o1]; exact part_cellU w Tryz.underlying3 _ _ _ rfl) (by rw [t1, o1]; exact part_cellU w Tryz.underlying3 _ _ _ rfl) (by rw [t1]; exact ki _ _) ?_
  refine eqFields_cons w 9999 _ _ g _ (by rw [n2]; decide) (.int .u64 (s.2.1 : Int)) (.int .u64 (t.2.1 : Int)) _ _ (by rw [t2, o2]; exact part_cellU w Tryz.underlying34 _ _ _ rfl) (by rw [t2, o2]; exact part_cellU w Tryz.underlying34 _ _ _ rfl) (by rw [t2]; exact ku _ _) ?_
  refine eqFields_cons w 9999 _ _ h _ (by rw [n3]; decide) (.int .i64 s.2.2.1) (.int .i64 t.2.2.1) _ _ (by rw [t3, o3]; exact part_cellU w Tryz.underlying3 _ _ _ rfl) (by rw [t3, o3]; exact part_cellU w Tryz.underlying3 _ _ _ rfl) (by rw [t3]; exact ki _ _) ?_
  refine eqFields_cons w 9999 _ _ i _ (by rw [n4]; decide) (.int .i64 s.2.2.2.1) (.int .i64 t.2.2.2.1) _ _ (by rw [t4, o4]; exact part_cellU w Tryz.underlying3 _ _ _ rfl) (by rw [t4, o4]; exact part_cellU w Tryz.underlying3 _ _ _ rfl) (by rw [t4]; exact ki _ _) ?_
  refine eqFields_cons w 9999 _ _ j _ (by rw [n5]; decide) (.int .i64 s.2.2.2.2) (.int .i64 t.2.2.2.2) _ _ (by rw [t5, o5]; exact part_cellU w Tryz.underlying3 _ _ _ rfl) (by rw [t5, o5]; exact part_cellU w Tryz.underlying3 _ _ _ rfl) (by rw [t5]; exact ki _ _) ?_
  exact eqFields_nil w 9999 _ _
theorem wpList_eqC {w : World} {ops : Array Oper} {rest : List Oper} {o : Oper} {a : Act} {Q : Exit → Act → World → Prop} (hw : Region.wanted o (yielded ops a.tmps) = true) (x y : Operand) (hop : o.op = .binOp .eql 36 x y 36)
    (s t : Cmd) (hx : a.eval x = cval s) (hy : a.eval y = cval t) (r : Bool) (hr : (s == t) = r) (h : wpList Tryz.prog ops Q rest (a.put o.dst (.bool r)) w) : wpList Tryz.prog ops Q (o :: rest) a w := by
  subst hr
  refine wpList_step fun K hK => ?_
  rw [if_pos hw]
  unfold Go.Oper.wp execOp
  simp [hop, hx, hy, run_eqGuard_agg w .eql 36 x y _ _ Tryz.guard_cmd, run_eql_struct, cmd_eq, Result.andThen]
  exact hK _ _ h
end Go.Proofs.YtfakboehmcimpaaGreat
