import Derived.Test.YtccdgpadjfjoeaaMAO
import Derived.Test.YtccdgpadjfjoeaaWR6d
namespace Go.Proofs.Ytccdgpadjfjoeaa
open Go Go.RowKit
set_option linter.unusedVariables false
set_option linter.unusedSimpArgs false

/-! As RegO, with whatever is kept (I) in place of what is later than b0. -/
section
variable {P : Program} {ops : Array Oper} {md : Region.Mode} {I : World → Prop}

/-- a world that keeps I -/
structure Held (I : World → Prop) where
  w : World
  h : I w
def Oper.mildI (P : Program) (I : World → Prop) (o : Oper) (a : Act) (next : Act → Prop) : Prop :=
  ∃ v, (∀ p : Held I, Oper.mildUpon P p.w v ((execOp a.eval o).run P p.w)) ∧ next (a.put o.dst v)
def GivesI (P : Program) (ops : Array Oper) (I : World → Prop) (o : Oper) (v : Value) (a : Act) : Prop :=
  (Region.wanted o (yielded ops a.tmps) = true ∧ ∀ p : Held I, Oper.mildUpon P p.w v ((execOp a.eval o).run P p.w)) ∨
  (Region.wanted o (yielded ops a.tmps) = false ∧ v = undef)
theorem GivesI.of_same {o : Oper} {v : Value} {a a' : Act} (hy : GivesI P ops I o v a) (he : execOp a'.eval o = execOp a.eval o)
    (hw : Region.wanted o (yielded ops a'.tmps) = Region.wanted o (yielded ops a.tmps)) : GivesI P ops I o v a' := by
  unfold GivesI at *
  rw [he, hw]
  exact hy

def Oper.heldUpon (P : Program) (I : World → Prop) (o : Oper) (a : Act) (w : World) (K : Act → World → Prop) : Result Next → Prop
  | .ok (.value u) w' => I w' ∧ K (a.put o.dst u) w'
  | .ok .skip w' => I w' ∧ K (a.put o.dst undef) w'
  | .ok (.enter f args) w' => w' = w ∧ Calls P f args w (fun e w'' => ∃ u, e = .returned u ∧ I w'' ∧ K (a.put o.dst u) w'')
  | _ => False
def jOp (P : Program) (ops : Array Oper) (I : World → Prop) (i : Nat) (K : Act → World → Prop) (a : Act) (w : World) : Prop :=
  match ops[i]? with
  | none => False
  | some o => if Region.wanted o (yielded ops a.tmps) then Oper.heldUpon P I o a w K ((execOp a.eval o).run P w) else K (a.put o.dst undef) w

theorem Oper.heldUpon_mono {o : Oper} {a : Act} {w : World} {K K' : Act → World → Prop} (h : ∀ a w', I w' → K a w' → K' a w') : ∀ r, Oper.heldUpon P I o a w K r → Oper.heldUpon P I o a w K' r
  | .ok (.value u) w', hh => ⟨hh.1, h _ _ hh.1 hh.2⟩
  | .ok .skip w', hh => ⟨hh.1, h _ _ hh.1 hh.2⟩
  | .ok (.enter f args) w', hh => ⟨hh.1, hh.2.mono fun e w'' ⟨u, he, hl, hk⟩ => ⟨u, he, hl, h _ _ hl hk⟩⟩
  | .ok (.defer _) _, hh => hh.elim
  | .ok (.row _ _) _, hh => hh.elim
  | .halt _ _, hh => hh.elim
theorem jOp_mono {i : Nat} {a : Act} {w : World} {K K' : Act → World → Prop} (hw0 : I w) (h : ∀ a w', I w' → K a w' → K' a w') (hh : jOp P ops I i K a w) : jOp P ops I i K' a w := by
  unfold jOp at *
  split
  · rename_i ho; simp [ho] at hh
  · rename_i o ho
    simp only [ho] at hh
    split
    · rename_i hw; simp only [hw, if_true] at hh; exact Oper.heldUpon_mono h _ hh
    · rename_i hw; simp only [hw] at hh; exact h _ _ hw0 hh

def wpH (P : Program) (md : Region.Mode) (ops : Array Oper) (I : World → Prop) (Q : Act → World → Prop) : Nat → Array Bool → Act → World → Prop
  | 0, listed, a, b => Region.ready md ops listed = [] ∧ ∀ w, Later b w → Q a w
  | n + 1, listed, a, b => ∀ w, Later b w → (Region.ready md ops listed = [] → Q a w) ∧ ∀ i ∈ Region.ready md ops listed, jOp P ops I i (fun a' w' => wpH P md ops I Q n (listed.setIfInBounds i true) a' w') a w
theorem wpH_base {Q : Act → World → Prop} {b c : World} (hl : Later b c) : ∀ (n : Nat) (listed : Array Bool) (a : Act), wpH P md ops I Q n listed a b → wpH P md ops I Q n listed a c
  | 0, _, _, h => ⟨h.1, fun w hw => h.2 w (hl.trans hw)⟩
  | _ + 1, _, _, h => fun w hw => h w (hl.trans hw)
theorem wpOp_of_jOp {Q' : Exit → Act → World → Prop} {i : Nat} {a : Act} {w : World} {K : Act → World → Prop} (h : jOp P ops I i K a w) : wpOp P ops Q' i K a w := by
  unfold jOp at h
  unfold wpOp
  split
  · rename_i ho; simp [ho] at h
  · rename_i o ho
    simp only [ho] at h
    split
    · rename_i hw
      simp only [hw, if_true] at h
      refine .inl ?_
      unfold Go.Oper.wp
      generalize (execOp a.eval o).run P w = r at *
      cases r with
      | ok n w' =>
        cases n <;> simp only [Oper.heldUpon] at h <;> simp only [Go.Oper.upon]
        case value u => exact h.2
        case skip => exact h.2
        case enter f args =>
          obtain ⟨rfl, hc⟩ := h
          exact hc.mono fun e w'' ⟨u, he, _, hk⟩ => by subst he; exact hk
      | halt x w' => simp only [Oper.heldUpon] at h
    · rename_i hw; simp only [hw] at h; exact h
theorem wpAny_of_wpH {Q : Act → World → Prop} {Q' : Exit → Act → World → Prop} (hQ : ∀ a w, Q a w → Q' .normal a w) : ∀ (n : Nat) (listed : Array Bool) (a : Act) (w : World), wpH P md ops I Q n listed a w → wpAny P md ops Q' n listed a w
  | 0, _, _, w, h => ⟨h.1, hQ _ _ (h.2 w (Later.refl _))⟩
  | n + 1, _, _, w, h => ⟨fun h0 => hQ _ _ ((h w (Later.refl _)).1 h0), fun i hi => wpOp_mono (fun a' w' h' => wpAny_of_wpH hQ n _ a' w' h') (wpOp_of_jOp ((h w (Later.refl _)).2 i hi))⟩

theorem GivesI.jOp (hI : ∀ w w', Later w w' → I w → I w') {w : World} {i : Nat} {o : Oper} {v : Value} {a : Act} (hi : ops[i]? = some o) (hy : GivesI P ops I o v a) (hw : I w) {K : Act → World → Prop} (h : ∀ w', Later w w' → K (a.put o.dst v) w') : jOp P ops I i K a w := by
  unfold Go.Proofs.Ytccdgpadjfjoeaa.jOp
  simp only [hi]
  rcases hy with ⟨hwt, hv⟩ | ⟨hwt, rfl⟩
  · simp only [hwt, if_true]
    have hv := hv ⟨w, hw⟩
    generalize (execOp a.eval o).run P w = r at *
    cases r with
    | ok n w' =>
      cases n <;> simp only [Oper.mildUpon] at hv <;> simp only [Oper.heldUpon]
      case value u => obtain ⟨rfl, rfl⟩ := hv; exact ⟨hw, h _ (Later.refl _)⟩
      case skip => obtain ⟨rfl, rfl⟩ := hv; exact ⟨hw, h _ (Later.refl _)⟩
      case enter f args => exact ⟨hv.1, hv.2.mono fun e w'' ⟨he, hl⟩ => ⟨v, he, hI _ _ hl hw, h _ hl⟩⟩
    | halt x w' => simp only [Oper.mildUpon] at hv
  · simp only [hwt, Bool.false_eq_true, if_false]; exact h _ (Later.refl _)
theorem jOp_put {w : World} {j : Nat} {oi oj : Oper} {v : Value} (hj : ops[j]? = some oj) (hap : oi.apart ops oj = true)
    (hsi : ∀ cs d, oi.op ≠ .select cs d) (hsj : ∀ cs d, oj.op ≠ .select cs d) {K : Act → World → Prop} {a : Act}
    (hy : GivesI P ops I oi v a) (h : jOp P ops I j K (a.put oi.dst v) w) :
    jOp P ops I j (fun a' w' => GivesI P ops I oi v a' ∧ K (a'.put oi.dst v) w') a w := by
  obtain ⟨h1, h2, h3⟩ := Oper.apart_spec hap
  have keep : ∀ u, GivesI P ops I oi v (a.put oj.dst u) := fun u => hy.of_same (execOp_put oi hsi a oj.dst u h3) (wanted_put oi a oj.dst u h3)
  unfold Go.Proofs.Ytccdgpadjfjoeaa.jOp at *
  simp only [hj] at *
  rw [wanted_put oj a oi.dst v h1] at h
  split
  · rename_i hw
    simp only [hw, if_true] at h
    rw [execOp_put oj hsj a oi.dst v h1] at h
    generalize (execOp a.eval oj).run P w = r at *
    cases r with
    | ok n w' =>
      cases n <;> simp only [Oper.heldUpon] at h ⊢
      case value u => exact ⟨h.1, keep u, by rw [← Act.put_comm a v u h2]; exact h.2⟩
      case skip => exact ⟨h.1, keep _, by rw [← Act.put_comm a v undef h2]; exact h.2⟩
      case enter f args => exact ⟨h.1, h.2.mono fun e w'' ⟨u, he, hl, hk⟩ => ⟨u, he, hl, keep u, by rw [← Act.put_comm a v u h2]; exact hk⟩⟩
    | halt x w' => simp only [Oper.heldUpon] at h
  · rename_i hw
    simp only [hw] at h
    exact ⟨keep _, by rw [← Act.put_comm a v undef h2]; exact h⟩

theorem wpH_first (hI : ∀ w w', Later w w' → I w → I w') {Q : Act → World → Prop} {i : Nat} {oi : Oper} {v : Value} (hi : ops[i]? = some oi) (hsel : ∀ (j : Nat) (o : Oper) cs d, ops[j]? = some o → o.op ≠ .select cs d) :
    ∀ (n : Nat) (listed : Array Bool) (a : Act) (b : World), I b →
      (∀ j oj, ops[j]? = some oj → j ≠ i → listed.getD j true = false → (∀ e ∈ oj.after, Region.binds md e = true → e.on ≠ i) → oi.apart ops oj = true) →
      i ∈ Region.ready md ops listed → GivesI P ops I oi v a →
      wpH P md ops I Q n (listed.setIfInBounds i true) (a.put oi.dst v) b → wpH P md ops I Q (n + 1) listed a b := by
  intro n
  induction n with
  | zero =>
    intro listed a b hb _ hr hy H w hw
    refine ⟨fun h => (by rw [h] at hr; cases hr), fun j hj => ?_⟩
    by_cases hji : j = i
    · subst hji; exact hy.jOp hI hi (hI _ _ hw hb) fun w' hw' => wpH_base (hw.trans hw') 0 _ _ H
    · have := ready_mono hj hji
      rw [H.1] at this
      cases this
  | succ n ih =>
    intro listed a b hb hfree hr hy H w hw
    refine ⟨fun h => (by rw [h] at hr; cases hr), fun j hj => ?_⟩
    by_cases hji : j = i
    · subst hji; exact hy.jOp hI hi (hI _ _ hw hb) fun w' hw' => wpH_base (hw.trans hw') (n + 1) _ _ H
    · have h1 := (H w hw).2 j (ready_mono hj hji)
      obtain ⟨hjun, oj, hoj, hall⟩ := mem_ready.1 hj
      have hnot : ∀ e ∈ oj.after, Region.binds md e = true → e.on ≠ i := fun e he hb heq => by
        have h1 := hall e he hb
        have h0 := (mem_ready.1 hr).1
        rw [heq] at h1
        rcases Nat.lt_or_ge i listed.size with h' | h'
        · simp [h'] at h0 h1; rw [h0] at h1; cases h1
        · simp [Array.getElem?_eq_none h'] at h1
      have h2 := jOp_put hoj (hfree j oj hoj hji hjun hnot) (fun cs d => hsel i oi cs d hi) (fun cs d => hsel j oj cs d hoj) hy h1
      have hfree' : ∀ k ok, ops[k]? = some ok → k ≠ i → (listed.setIfInBounds j true).getD k true = false →
          (∀ e ∈ ok.after, Region.binds md e = true → e.on ≠ i) → oi.apart ops ok = true := fun k ok hk hki hun hno => by
        refine hfree k ok hk hki ?_ hno
        by_cases hjk : j = k
        · subst hjk; exact hjun
        · rw [getD_set_ne true hjk] at hun; exact hun
      refine jOp_mono (hI _ _ hw hb) (fun a' w' hl h3 => ih (listed.setIfInBounds j true) a' w' hl hfree' (ready_mono hr (Ne.symm hji)) h3.1 ?_) h2
      rw [Array.setIfInBounds_comm _ _ hji]
      exact h3.2

/-- the walk along one order: false: one value in every world later than b0; true: what alone may come up -/
def wpJ (P : Program) (ops : Array Oper) (I : World → Prop) (Q : Act → World → Prop) : List (Nat × Bool) → Act → World → Prop
  | [], a, b => ∀ w, Later b w → Q a w
  | (i, false) :: σ, a, b => ∃ o, ops[i]? = some o ∧ if Region.wanted o (yielded ops a.tmps) then Oper.mildI P I o a (fun a' => wpJ P ops I Q σ a' b) else wpJ P ops I Q σ (a.put o.dst undef) b
  | (i, true) :: σ, a, b => ∀ w, Later b w → jOp P ops I i (fun a' w' => wpJ P ops I Q σ a' w') a w
theorem wpH_of_wpJ (hI : ∀ w w', Later w w' → I w → I w') {Q : Act → World → Prop} (hs : Region.noSelect ops = true) : ∀ (σ : List (Nat × Bool)) (listed : Array Bool) (a : Act) (b : World), I b → schedB md ops σ listed = true → wpJ P ops I Q σ a b → wpH P md ops I Q σ.length listed a b
  | [], listed, a, b, _, hB, h => ⟨by simpa [schedB] using hB, h⟩
  | (i, false) :: σ, listed, a, b, hb, hB, h => by
    simp only [schedB, Bool.and_eq_true] at hB
    obtain ⟨o, ho, h⟩ := h
    by_cases hw : Region.wanted o (yielded ops a.tmps) = true
    · simp only [hw, if_true] at h
      obtain ⟨v, hv, hk⟩ := h
      exact wpH_first hI ho (Region.noSelect_spec hs) σ.length listed a b hb (Region.free_spec ho hB.1.2) (by simpa using hB.1.1) (.inl ⟨hw, hv⟩) (wpH_of_wpJ hI hs σ _ _ _ hb hB.2 hk)
    · simp only [hw] at h
      exact wpH_first hI ho (Region.noSelect_spec hs) σ.length listed a b hb (Region.free_spec ho hB.1.2) (by simpa using hB.1.1) (.inr ⟨by simpa using hw, rfl⟩) (wpH_of_wpJ hI hs σ _ _ _ hb hB.2 h)
  | (i, true) :: σ, listed, a, b, hb, hB, h => by
    simp only [schedB, Bool.and_eq_true, beq_iff_eq] at hB
    intro w hw
    refine ⟨fun h0 => (by rw [hB.1] at h0; cases h0), fun j hj => ?_⟩
    rw [hB.1] at hj
    simp at hj
    subst hj
    exact jOp_mono (hI _ _ hw hb) (fun a' w' hl h' => wpH_of_wpJ hI hs σ _ a' w' hl hB.2 h') (h w hw)
/-- A REGION THAT DRAWS ITS ORDER and stores into what is younger than b0. -/
theorem wp_region_held {id : Nat} {Q : Exit → Act → World → Prop} {a : Act} {w : World} {l : List Oper} (I : World → Prop) (hI : ∀ w w', Later w w' → I w → I w') (hb : I w) (σ : List (Nat × Bool)) (hm : P.follows .mixedOrders = true) (hs : Region.noSelect l.toArray = true) (hn : (σ.length == l.length) = true)
    (hB : schedB .any l.toArray σ (Array.replicate l.length false) = true)
    (h : wpJ P l.toArray I (fun a' w' => Q .normal a' w') σ a w.drew) : (Code.region id l.toArray true).wp P Q a w := by
  refine wp_region_any hm ?_
  have h1 := wpH_of_wpJ hI (md := .any) hs σ _ a _ (hI _ _ (Later.refl w).drew hb) hB h
  have h2 := wpAny_of_wpH (Q' := Q) (fun _ _ h => h) _ _ _ _ h1
  have e : l.toArray.size = σ.length := by simp at hn; simp [hn]
  rw [e]
  have e2 : l.length = σ.length := by simp at hn; exact hn.symm
  rw [e2] at h2
  exact h2
theorem wpJ_mild {Q : Act → World → Prop} {i : Nat} {o : Oper} {σ : List (Nat × Bool)} {a : Act} {b : World} (ho : ops[i]? = some o)
    (h : ∀ K : Act → Prop, (∀ a', wpJ P ops I Q σ a' b → K a') → if Region.wanted o (yielded ops a.tmps) then Oper.mildI P I o a K else K (a.put o.dst undef)) : wpJ P ops I Q ((i, false) :: σ) a b := by
  refine ⟨o, ho, ?_⟩
  have := h _ (fun _ h => h)
  split
  · rename_i hw; rw [if_pos hw] at this; exact this
  · rename_i hw; rw [if_neg hw] at this; exact this
theorem wpJ_nil {Q : Act → World → Prop} {a : Act} {b : World} (h : ∀ w, Later b w → Q a w) : wpJ P ops I Q [] a b := h
theorem wpJ_call {Q : Act → World → Prop} {i : Nat} {o : Oper} {σ : List (Nat × Bool)} {a : Act} {b : World} (ho : ops[i]? = some o) (hw : Region.wanted o (yielded ops a.tmps) = true) (f : FuncId) (hp : Plain P f) (xs : List Operand) (ts : Array TypeId) (hop : o.op = .call { callee := .value (.func f), args := xs.toArray, argTypes := ts }) (us : List Value) (hx : xs.map a.eval = us)
    (v : Value) (hc : ∀ w, I w → Calls P f us.toArray w fun e w' => e = .returned v ∧ Later w w')
    (h : wpJ P ops I Q σ (a.put o.dst v) b) : wpJ P ops I Q ((i, false) :: σ) a b := by
  refine ⟨o, ho, ?_⟩
  rw [if_pos hw]
  refine ⟨v, fun p => ?_, h⟩
  rw [run_call f hp xs ts hop us hx]
  exact ⟨rfl, hc p.w p.h⟩
/-- a store of many cells, where it alone may come up -/
theorem wpJ_store {Q : Act → World → Prop} {i : Nat} {o : Oper} {σ : List (Nat × Bool)} {a : Act} {b : World} (ho : ops[i]? = some o) (hgd : o.guard = none) (ty : TypeId) (x y : Operand) (hop : o.op = .store ty x y) (g : Nat) (cells : List Value) (hx : a.eval x = .pointer (some ⟨g, 0, none⟩)) (hy : a.eval y = .agg cells.toArray)
    (hi : (P.info? ty).map (·.size) = some cells.length) (h1 : ∀ v ∈ cells, v.oneCell' = true) (t : TypeId) (cs : List Value) (hB : Box b g t cs) (hl : cells.length ≤ cs.length) (hI2 : ∀ w, Later b w → I (w.setCells g 0 cells))
    (h : ∀ wl, Later b wl → ∀ w', Hid (w' = wl.setCells g 0 cells) → wpJ P ops I Q σ (a.put o.dst undef) w') : wpJ P ops I Q ((i, true) :: σ) a b := by
  intro w hw
  unfold jOp
  simp only [ho]
  rw [if_pos (by simp [Region.wanted, hgd])]
  have hBw := hB.later hw
  have hrun := run_storeAt_mid (P := P) w g 0 ty cells.toArray (by simpa using hBw.there 0 cells.length (by omega)) (by simpa using hi) (all_oneCell_toArray h1)
  have hl0 := hI2 w hw
  have h2 := h w hw _ rfl
  simp [execOp, hop, hx, hy, hrun, Result.andThen, Oper.heldUpon]
  exact ⟨hl0, h2⟩
end
attribute [go_sem] Oper.mildI
end Go.Proofs.Ytccdgpadjfjoeaa

namespace Go.Proofs.Ytccdgpadjfjoeaa
open Go.ChangeShapes Go.WideShapes Go.ChangeAt Go.RowKit
set_option linter.unusedVariables false
set_option linter.unusedSimpArgs false

/-! blocks: a command that goes by blocks. -/
def bitsS (k : Int) (l : List UInt8) : Int := if k = 1 ∨ k = 2 then (Bn l 1 : Int) / 8 % 2 else if k = 3 then (Bn l 1 : Int) / 2 % 2 else 0
def okS6 (k : Int) (l : List UInt8) : Bool := if k = 3 then ((Bn l 1 : Int) / 4 % 2 == 0) else true
def blocksS (op : Int) (l : List UInt8) : Cmd × Bool :=
  if l.length = 6 then lb true (op, Bn l 1 % 32 * 65536 + Bn l 2 * 256 + Bn l 3, (if Bn l 4 = 0 then 256 else (Bn l 4 : Int)), 0, 0)
  else if l.length = 10 then lb (okS6 (classI op) l) (op, bigAt l 2 4, (bigAt l 7 2 : Int), 0, bitsS (classI op) l)
  else if l.length = 12 then lb (okS6 (classI op) l) (op, bigAt l 2 4, (bigAt l 6 4 : Int), 0, bitsS (classI op) l)
  else lb (okS6 (classI op) l) (op, bigAt l 2 8, (bigAt l 10 4 : Int), 0, bitsS (classI op) l)
abbrev IBlocks (op : Int) (n : Nat) : Prop := ∀ (v : Value) (l : List UInt8) (w : World), Bs w v l → l.length = n → Calls Try.prog 25 #[.int .i64 op, v] w fun e w' => e = .returned (.tuple #[cval (blocksS op l).1, .bool (blocksS op l).2]) ∧ Later w w'
theorem wru_of {x : Int} (h : 0 ≤ x ∧ x ≤ 18446744073709551615) : IntKind.u64.wrap x = x := by rw [IntKind.wrap_u64]; omega
set_option maxRecDepth 20000 in
set_option maxHeartbeats 1000000 in
theorem rblocks_6 (op : Int) : IBlocks op 6 := by
  intro v l w h hl
  have HR : Hid (blocksS op l = lb true (op, Bn l 1 % 32 * 65536 + Bn l 2 * 256 + Bn l 3, (if Bn l 4 = 0 then 256 else (Bn l 4 : Int)), 0, 0)) := by rw [Hid, blocksS, if_pos hl]
  obtain ⟨b, off, cap, rfl, hc⟩ := h.cells6 hl (by omega)
  have HB := hide h
  have b1 := Bn_lt l 1
  have b2 := Bn_lt l 2
  have b3 := Bn_lt l 3
  have b4 := Bn_lt l 4
  have b8 := Bn_lt l 8
  have HC := hide hc
  clear hc h hl
  have z1 := wr_of (x := (Bn l 1 : Int)) (by omega)
  have z2 := wr_of (x := (Bn l 2 : Int)) (by omega)
  have z3 := wr_of (x := (Bn l 3 : Int)) (by omega)
  have z4 := wr_of (x := (Bn l 4 : Int)) (by omega)
  have z5 := wr_of (x := (Bn l 1 : Int) % 2) (by omega)
  have z6 := wr_of (x := (Bn l 2 : Int) % 64) (by omega)
  have z7 := wr_of (x := (Bn l 2 : Int) / 64) (by omega)
  have z8 := wr_of (x := (Bn l 4 : Int) % 4) (by omega)
  have v1 := wr8_of (x := (Bn l 1 : Int) / 16) (by omega)
  have v2 := wr8_of (x := (Bn l 2 : Int) / 64) (by omega)
  have v3 := wr8_of (x := (Bn l 1 : Int) / 8) (by omega)
  have v4 := wr8_of (x := (Bn l 1 : Int) / 4) (by omega)
  have v5 := wr8_of (x := (Bn l 1 : Int) / 2) (by omega)
  have m1 := tm2
  have m2 := tm4
  have m3 := tm32
  have m4 := tm64
  have m5 := td16
  have m6 := td64
  have m7 := tdm16
  have B4 := hide (((Box.new w 26 #[.int .i64 0, .int .u64 0, .int .i64 0, .int .i64 0, .int .i64 0])).alloc (.cells #[.int .i64 op, .int .u64 0, .int .i64 0, .int .i64 0, .int .i64 0] 26))
  have B6 := hide (Box.new' (w.alloc (.cells #[.int .i64 0, .int .u64 0, .int .i64 0, .int .i64 0, .int .i64 0] 26)) 26 #[.int .i64 op, .int .u64 0, .int .i64 0, .int .i64 0, .int .i64 0] _ rfl (w.heap.size + 1) (by simp))
  have LL := hide (((Later.refl w).alloc (.cells #[.int .i64 0, .int .u64 0, .int .i64 0, .int .i64 0, .int .i64 0] 26)).alloc (.cells #[.int .i64 op, .int .u64 0, .int .i64 0, .int .i64 0, .int .i64 0] 26))
  go_enter Try.func25, Try.ntmps25
  go_wp2_with fail
  generalize ((w.alloc (.cells #[.int .i64 0, .int .u64 0, .int .i64 0, .int .i64 0, .int .i64 0] 26)).alloc (.cells #[.int .i64 op, .int .u64 0, .int .i64 0, .int .i64 0, .int .i64 0] 26)) = w1 at *
  refine (rclass_c op _).mono ?_
  rintro e w2 ⟨rfl, hw⟩
  have hw2 := hw.symm
  subst hw2
  clear hw
  generalize classI op = k
  have u1 := wru_of (x := (Bn l 1 : Int) % 32) (by omega)
  have u2 := wru_of (x := (Bn l 1 : Int) % 32 * 65536) (by omega)
  have u3 := wru_of (x := (Bn l 2 : Int)) (by omega)
  have u4 := wru_of (x := (Bn l 2 : Int) * 256) (by omega)
  have u5 := wru_of (x := (Bn l 1 : Int) % 32 * 65536 + (Bn l 2 : Int) * 256) (by omega)
  have u6 := wru_of (x := (Bn l 3 : Int)) (by omega)
  have u7 : IntKind.u64.wrap ((Bn l 1 : Int) % 32 * 65536 + (Bn l 2 : Int) * 256 + (Bn l 3 : Int)) = ((Bn l 1 % 32 * 65536 + Bn l 2 * 256 + Bn l 3 : Nat) : Int) := by rw [wru_of (by omega)]; omega
  generalize Bn l 1 % 32 * 65536 + Bn l 2 * 256 + Bn l 3 = A at *
  go_wp2_with fail
  refine wp_region_old w LL.out [(0, false), (1, false), (2, false), (3, false), (4, false), (5, false), (6, false), (7, false), (8, false), (9, false), (10, false), (11, false), (12, false), (13, false), (14, false), (15, false), (16, false), (17, false), (18, true)] (by kernel_rfl) (by kernel_rfl) (by kernel_rfl) (by kernel_rfl) ?_
  have k1 := fun r => HC.out 1 (by omega) _ (later_rg w r)
  have k2 := fun r => HC.out 2 (by omega) _ (later_rg w r)
  have k3 := fun r => HC.out 3 (by omega) _ (later_rg w r)
  have k4 := fun r => HC.out 4 (by omega) _ (later_rg w r)
  replace B4 := hide (B4.out.later (Later.refl _).drew)
  replace B6 := hide (B6.out.later (Later.refl _).drew)
  replace LL := hide (LL.out.trans (Later.refl _).drew)
  iterate 18 (refine wpK_mild rfl (fun K hK => ?_); go_simp; refine hK _ ?_; clear hK K)
  refine wpK_store rfl rfl 24 (.tmp 32) (.tmp 31) rfl (w.heap.size + 1) 1 rfl .u64 (A : Int) rfl Try.info1_u64 _ _ B6.out (by simp) LL.out (Nat.le_succ _) ?_
  intro wl hl w2 hB hL hw
  replace B4 := hide ((B4.out.later hl).apart (w.heap.size + 1) (by omega) [.int .u64 (A : Int)] 1)
  rw [← hw.out] at B4
  replace B6 : Hid (Box w2 (w.heap.size + 1) 26 (cc (op, A, 0, 0, 0))) := hB
  replace LL := hide hL
  clear hl hB hL hw
  clear wl
  refine wpK_nil (fun wn hn => ?_)
  replace B4 := hide (B4.out.later hn)
  replace B6 := hide (B6.out.later hn)
  replace LL := hide (LL.out.trans hn)
  clear hn k1 k2 k3 k4
  clear u1 u2 u3 u4 u5 u6 u7
  have k4 := HC.out 4 (by omega) _ LL.out
  go_wp2_with (refine wpList_storeI rfl 3 (.tmp 37) (.tmp 36) rfl (w.heap.size + 1) 2 rfl .i64 (Bn l 4 : Int) rfl Try.info1_int _ _ B6.out (by simp) ?_)
  intro w2 hB hw
  replace B4 := hide (B4.out.apart (w.heap.size + 1) (by omega) [.int .i64 (Bn l 4 : Int)] 2)
  replace LL := hide (LL.out.setCells (g := w.heap.size + 1) (Nat.le_succ _) [.int .i64 (Bn l 4 : Int)] 2)
  rw [← hw.out] at B4 LL
  replace B6 : Hid (Box w2 (w.heap.size + 1) 26 (cc (op, A, (Bn l 4 : Int), 0, 0))) := hB
  clear hB hw
  have d2 := B6.out.cell 2
  by_cases hz : Bn l 4 = 0
  · have hzb : ((Bn l 4 : Int) == 0) = true := by simp [hz]
    replace HR : Hid (blocksS op l = lb true (op, A, 256, 0, 0)) := by rw [Hid, HR.out, if_pos hz]
    clear hz
    go_wp2_with (refine wpList_storeI rfl 3 (.tmp 41) (.const (.int .i64 256)) rfl (w.heap.size + 1) 2 rfl .i64 256 rfl Try.info1_int _ _ B6.out (by simp) ?_)
    intro w2 hB hw
    replace B4 := hide (B4.out.apart (w.heap.size + 1) (by omega) [.int .i64 256] 2)
    replace LL := hide (LL.out.setCells (g := w.heap.size + 1) (Nat.le_succ _) [.int .i64 256] 2)
    rw [← hw.out] at B4 LL
    replace B6 : Hid (Box w2 (w.heap.size + 1) 26 (cc (op, A, 256, 0, 0))) := hB
    clear hB hw
    clear d2
    have e0 := B6.out.cell 0
    have e1 := B6.out.cell 1
    have e2 := B6.out.cell 2
    have e3 := B6.out.cell 3
    have e4 := B6.out.cell 4
    go_wp2_with (refine wpList_storeU rfl 26 (.tmp 4) (.tmp 42) rfl w.heap.size 0 rfl (cc (op, A, 256, 0, 0)) rfl Try.info_cmd (cc_one _) _ _ B4.out (by simp) ?_)
    intro wz hz
    have BZ : Hid (Box wz w.heap.size 26 (cc (op, A, 256, 0, 0))) := by rw [hz.out]; exact B4.out.all _ rfl
    have LZ : Hid (Later w wz) := by rw [hz.out]; exact LL.out.setCells (Nat.le_refl _) _ _
    clear hz e0 e1 e2 e3 e4
    go_wp2
    refine bodyPost_ret (results_cell_tmp rfl _ _ _ w.heap.size 0 rfl _ (.bool true) (load_cmd (c := (op, A, 256, 0, 0)) BZ.out rfl) (by rfl)) rfl ⟨by rw [HR.out], LZ.out⟩
  · have hzb : ((Bn l 4 : Int) == 0) = false := by simp [hz]
    replace HR : Hid (blocksS op l = lb true (op, A, (Bn l 4 : Int), 0, 0)) := by rw [Hid, HR.out, if_neg hz]
    clear hz
    have e0 := B6.out.cell 0
    have e1 := B6.out.cell 1
    have e2 := B6.out.cell 2
    have e3 := B6.out.cell 3
    have e4 := B6.out.cell 4
    go_wp2_with (refine wpList_storeU rfl 26 (.tmp 4) (.tmp 42) rfl w.heap.size 0 rfl (cc (op, A, (Bn l 4 : Int), 0, 0)) rfl Try.info_cmd (cc_one _) _ _ B4.out (by simp) ?_)
    intro wz hz
    have BZ : Hid (Box wz w.heap.size 26 (cc (op, A, (Bn l 4 : Int), 0, 0))) := by rw [hz.out]; exact B4.out.all _ rfl
    have LZ : Hid (Later w wz) := by rw [hz.out]; exact LL.out.setCells (Nat.le_refl _) _ _
    clear hz e0 e1 e2 e3 e4
    go_wp2
    refine bodyPost_ret (results_cell_tmp rfl _ _ _ w.heap.size 0 rfl _ (.bool true) (load_cmd (c := (op, A, (Bn l 4 : Int), 0, 0)) BZ.out rfl) (by rfl)) rfl ⟨by rw [HR.out], LZ.out⟩
end Go.Proofs.Ytccdgpadjfjoeaa
