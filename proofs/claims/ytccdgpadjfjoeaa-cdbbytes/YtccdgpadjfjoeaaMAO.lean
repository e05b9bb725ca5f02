import Derived.Test.YtccdgpadjfjoeaaMAG
import Derived.Test.YtccdgpadjfjoeaaMAN
namespace Go.Proofs.Ytccdgpadjfjoeaa
open Go Go.RowKit
set_option linter.unusedVariables false
set_option linter.unusedSimpArgs false

/-! A region that draws its order and stores into memory that is younger than b0: operations that give the same value in every world later than b0 are taken first, wherever the stores stand; a store is taken where it alone may come up. -/
section
variable {P : Program} {ops : Array Oper} {md : Region.Mode} {b0 : World}

def Oper.keepUpon (P : Program) (b0 : World) (o : Oper) (a : Act) (w : World) (K : Act → World → Prop) : Result Next → Prop
  | .ok (.value u) w' => Later b0 w' ∧ K (a.put o.dst u) w'
  | .ok .skip w' => Later b0 w' ∧ K (a.put o.dst undef) w'
  | .ok (.enter f args) w' => w' = w ∧ Calls P f args w (fun e w'' => ∃ u, e = .returned u ∧ Later b0 w'' ∧ K (a.put o.dst u) w'')
  | _ => False
def kOp (P : Program) (ops : Array Oper) (b0 : World) (i : Nat) (K : Act → World → Prop) (a : Act) (w : World) : Prop :=
  match ops[i]? with
  | none => False
  | some o => if Region.wanted o (yielded ops a.tmps) then Oper.keepUpon P b0 o a w K ((execOp a.eval o).run P w) else K (a.put o.dst undef) w

theorem Oper.keepUpon_mono {o : Oper} {a : Act} {w : World} {K K' : Act → World → Prop} (h : ∀ a w', Later b0 w' → K a w' → K' a w') : ∀ r, Oper.keepUpon P b0 o a w K r → Oper.keepUpon P b0 o a w K' r
  | .ok (.value u) w', hh => ⟨hh.1, h _ _ hh.1 hh.2⟩
  | .ok .skip w', hh => ⟨hh.1, h _ _ hh.1 hh.2⟩
  | .ok (.enter f args) w', hh => ⟨hh.1, hh.2.mono fun e w'' ⟨u, he, hl, hk⟩ => ⟨u, he, hl, h _ _ hl hk⟩⟩
  | .ok (.defer _) _, hh => hh.elim
  | .ok (.row _ _) _, hh => hh.elim
  | .halt _ _, hh => hh.elim
theorem kOp_mono {i : Nat} {a : Act} {w : World} {K K' : Act → World → Prop} (hw0 : Later b0 w) (h : ∀ a w', Later b0 w' → K a w' → K' a w') (hh : kOp P ops b0 i K a w) : kOp P ops b0 i K' a w := by
  unfold kOp at *
  split
  · rename_i ho; simp [ho] at hh
  · rename_i o ho
    simp only [ho] at hh
    split
    · rename_i hw; simp only [hw, if_true] at hh; exact Oper.keepUpon_mono h _ hh
    · rename_i hw; simp only [hw] at hh; exact h _ _ hw0 hh

def wpF (P : Program) (md : Region.Mode) (ops : Array Oper) (b0 : World) (Q : Act → World → Prop) : Nat → Array Bool → Act → World → Prop
  | 0, listed, a, b => Region.ready md ops listed = [] ∧ ∀ w, Later b w → Q a w
  | n + 1, listed, a, b => ∀ w, Later b w → (Region.ready md ops listed = [] → Q a w) ∧ ∀ i ∈ Region.ready md ops listed, kOp P ops b0 i (fun a' w' => wpF P md ops b0 Q n (listed.setIfInBounds i true) a' w') a w
theorem wpF_base {Q : Act → World → Prop} {b c : World} (hl : Later b c) : ∀ (n : Nat) (listed : Array Bool) (a : Act), wpF P md ops b0 Q n listed a b → wpF P md ops b0 Q n listed a c
  | 0, _, _, h => ⟨h.1, fun w hw => h.2 w (hl.trans hw)⟩
  | _ + 1, _, _, h => fun w hw => h w (hl.trans hw)
theorem wpOp_of_kOp {Q' : Exit → Act → World → Prop} {i : Nat} {a : Act} {w : World} {K : Act → World → Prop} (h : kOp P ops b0 i K a w) : wpOp P ops Q' i K a w := by
  unfold kOp at h
  unfold wpOp
  split
  · rename_i ho; simp [ho] at h
  · rename_i o ho
    simp only [ho] at h
    split
    · rename_i hw
      simp only [hw, if_true] at h
      refine .inl ?_
      unfold Go.Oper.wp
      generalize (execOp a.eval o).run P w = r at *
      cases r with
      | ok n w' =>
        cases n <;> simp only [Oper.keepUpon] at h <;> simp only [Go.Oper.upon]
        case value u => exact h.2
        case skip => exact h.2
        case enter f args =>
          obtain ⟨rfl, hc⟩ := h
          exact hc.mono fun e w'' ⟨u, he, _, hk⟩ => by subst he; exact hk
      | halt x w' => simp only [Oper.keepUpon] at h
    · rename_i hw; simp only [hw] at h; exact h
theorem wpAny_of_wpF {Q : Act → World → Prop} {Q' : Exit → Act → World → Prop} (hQ : ∀ a w, Q a w → Q' .normal a w) : ∀ (n : Nat) (listed : Array Bool) (a : Act) (w : World), wpF P md ops b0 Q n listed a w → wpAny P md ops Q' n listed a w
  | 0, _, _, w, h => ⟨h.1, hQ _ _ (h.2 w (Later.refl _))⟩
  | n + 1, _, _, w, h => ⟨fun h0 => hQ _ _ ((h w (Later.refl _)).1 h0), fun i hi => wpOp_mono (fun a' w' h' => wpAny_of_wpF hQ n _ a' w' h') (wpOp_of_kOp ((h w (Later.refl _)).2 i hi))⟩

theorem Gives.kOp {w : World} {i : Nat} {o : Oper} {v : Value} {a : Act} (hi : ops[i]? = some o) (hy : Gives P ops b0 o v a) (hw : Later b0 w) {K : Act → World → Prop} (h : ∀ w', Later w w' → K (a.put o.dst v) w') : kOp P ops b0 i K a w := by
  unfold Go.Proofs.Ytccdgpadjfjoeaa.kOp
  simp only [hi]
  rcases hy with ⟨hwt, hv⟩ | ⟨hwt, rfl⟩
  · simp only [hwt, if_true]
    have hv := hv w hw
    generalize (execOp a.eval o).run P w = r at *
    cases r with
    | ok n w' =>
      cases n <;> simp only [Oper.mildUpon] at hv <;> simp only [Oper.keepUpon]
      case value u => obtain ⟨rfl, rfl⟩ := hv; exact ⟨hw, h _ (Later.refl _)⟩
      case skip => obtain ⟨rfl, rfl⟩ := hv; exact ⟨hw, h _ (Later.refl _)⟩
      case enter f args => exact ⟨hv.1, hv.2.mono fun e w'' ⟨he, hl⟩ => ⟨v, he, hw.trans hl, h _ hl⟩⟩
    | halt x w' => simp only [Oper.mildUpon] at hv
  · simp only [hwt, Bool.false_eq_true, if_false]; exact h _ (Later.refl _)
theorem kOp_put {w : World} {j : Nat} {oi oj : Oper} {v : Value} (hj : ops[j]? = some oj) (hap : oi.apart ops oj = true)
    (hsi : ∀ cs d, oi.op ≠ .select cs d) (hsj : ∀ cs d, oj.op ≠ .select cs d) {K : Act → World → Prop} {a : Act}
    (hy : Gives P ops b0 oi v a) (h : kOp P ops b0 j K (a.put oi.dst v) w) :
    kOp P ops b0 j (fun a' w' => Gives P ops b0 oi v a' ∧ K (a'.put oi.dst v) w') a w := by
  obtain ⟨h1, h2, h3⟩ := Oper.apart_spec hap
  have keep : ∀ u, Gives P ops b0 oi v (a.put oj.dst u) := fun u => hy.of_same (execOp_put oi hsi a oj.dst u h3) (wanted_put oi a oj.dst u h3)
  unfold Go.Proofs.Ytccdgpadjfjoeaa.kOp at *
  simp only [hj] at *
  rw [wanted_put oj a oi.dst v h1] at h
  split
  · rename_i hw
    simp only [hw, if_true] at h
    rw [execOp_put oj hsj a oi.dst v h1] at h
    generalize (execOp a.eval oj).run P w = r at *
    cases r with
    | ok n w' =>
      cases n <;> simp only [Oper.keepUpon] at h ⊢
      case value u => exact ⟨h.1, keep u, by rw [← Act.put_comm a v u h2]; exact h.2⟩
      case skip => exact ⟨h.1, keep _, by rw [← Act.put_comm a v undef h2]; exact h.2⟩
      case enter f args => exact ⟨h.1, h.2.mono fun e w'' ⟨u, he, hl, hk⟩ => ⟨u, he, hl, keep u, by rw [← Act.put_comm a v u h2]; exact hk⟩⟩
    | halt x w' => simp only [Oper.keepUpon] at h
  · rename_i hw
    simp only [hw] at h
    exact ⟨keep _, by rw [← Act.put_comm a v undef h2]; exact h⟩

theorem wpF_first {Q : Act → World → Prop} {i : Nat} {oi : Oper} {v : Value} (hi : ops[i]? = some oi) (hsel : ∀ (j : Nat) (o : Oper) cs d, ops[j]? = some o → o.op ≠ .select cs d) :
    ∀ (n : Nat) (listed : Array Bool) (a : Act) (b : World), Later b0 b →
      (∀ j oj, ops[j]? = some oj → j ≠ i → listed.getD j true = false → (∀ e ∈ oj.after, Region.binds md e = true → e.on ≠ i) → oi.apart ops oj = true) →
      i ∈ Region.ready md ops listed → Gives P ops b0 oi v a →
      wpF P md ops b0 Q n (listed.setIfInBounds i true) (a.put oi.dst v) b → wpF P md ops b0 Q (n + 1) listed a b := by
  intro n
  induction n with
  | zero =>
    intro listed a b hb _ hr hy H w hw
    refine ⟨fun h => (by rw [h] at hr; cases hr), fun j hj => ?_⟩
    by_cases hji : j = i
    · subst hji; exact hy.kOp hi (hb.trans hw) fun w' hw' => wpF_base (hw.trans hw') 0 _ _ H
    · have := ready_mono hj hji
      rw [H.1] at this
      cases this
  | succ n ih =>
    intro listed a b hb hfree hr hy H w hw
    refine ⟨fun h => (by rw [h] at hr; cases hr), fun j hj => ?_⟩
    by_cases hji : j = i
    · subst hji; exact hy.kOp hi (hb.trans hw) fun w' hw' => wpF_base (hw.trans hw') (n + 1) _ _ H
    · have h1 := (H w hw).2 j (ready_mono hj hji)
      obtain ⟨hjun, oj, hoj, hall⟩ := mem_ready.1 hj
      have hnot : ∀ e ∈ oj.after, Region.binds md e = true → e.on ≠ i := fun e he hb heq => by
        have h1 := hall e he hb
        have h0 := (mem_ready.1 hr).1
        rw [heq] at h1
        rcases Nat.lt_or_ge i listed.size with h' | h'
        · simp [h'] at h0 h1; rw [h0] at h1; cases h1
        · simp [Array.getElem?_eq_none h'] at h1
      have h2 := kOp_put hoj (hfree j oj hoj hji hjun hnot) (fun cs d => hsel i oi cs d hi) (fun cs d => hsel j oj cs d hoj) hy h1
      have hfree' : ∀ k ok, ops[k]? = some ok → k ≠ i → (listed.setIfInBounds j true).getD k true = false →
          (∀ e ∈ ok.after, Region.binds md e = true → e.on ≠ i) → oi.apart ops ok = true := fun k ok hk hki hun hno => by
        refine hfree k ok hk hki ?_ hno
        by_cases hjk : j = k
        · subst hjk; exact hjun
        · rw [getD_set_ne true hjk] at hun; exact hun
      refine kOp_mono (hb.trans hw) (fun a' w' hl h3 => ih (listed.setIfInBounds j true) a' w' hl hfree' (ready_mono hr (Ne.symm hji)) h3.1 ?_) h2
      rw [Array.setIfInBounds_comm _ _ hji]
      exact h3.2

/-- the walk along one order: false: one value in every world later than b0; true: what alone may come up -/
def wpK (P : Program) (ops : Array Oper) (b0 : World) (Q : Act → World → Prop) : List (Nat × Bool) → Act → World → Prop
  | [], a, b => ∀ w, Later b w → Q a w
  | (i, false) :: σ, a, b => ∃ o, ops[i]? = some o ∧ if Region.wanted o (yielded ops a.tmps) then Oper.mild P o a b0 (fun a' => wpK P ops b0 Q σ a' b) else wpK P ops b0 Q σ (a.put o.dst undef) b
  | (i, true) :: σ, a, b => ∀ w, Later b w → kOp P ops b0 i (fun a' w' => wpK P ops b0 Q σ a' w') a w
theorem wpF_of_wpK {Q : Act → World → Prop} (hs : Region.noSelect ops = true) : ∀ (σ : List (Nat × Bool)) (listed : Array Bool) (a : Act) (b : World), Later b0 b → schedB md ops σ listed = true → wpK P ops b0 Q σ a b → wpF P md ops b0 Q σ.length listed a b
  | [], listed, a, b, _, hB, h => ⟨by simpa [schedB] using hB, h⟩
  | (i, false) :: σ, listed, a, b, hb, hB, h => by
    simp only [schedB, Bool.and_eq_true] at hB
    obtain ⟨o, ho, h⟩ := h
    by_cases hw : Region.wanted o (yielded ops a.tmps) = true
    · simp only [hw, if_true] at h
      obtain ⟨v, hv, hk⟩ := h
      exact wpF_first ho (Region.noSelect_spec hs) σ.length listed a b hb (Region.free_spec ho hB.1.2) (by simpa using hB.1.1) (.inl ⟨hw, hv⟩) (wpF_of_wpK hs σ _ _ _ hb hB.2 hk)
    · simp only [hw] at h
      exact wpF_first ho (Region.noSelect_spec hs) σ.length listed a b hb (Region.free_spec ho hB.1.2) (by simpa using hB.1.1) (.inr ⟨by simpa using hw, rfl⟩) (wpF_of_wpK hs σ _ _ _ hb hB.2 h)
  | (i, true) :: σ, listed, a, b, hb, hB, h => by
    simp only [schedB, Bool.and_eq_true, beq_iff_eq] at hB
    intro w hw
    refine ⟨fun h0 => (by rw [hB.1] at h0; cases h0), fun j hj => ?_⟩
    rw [hB.1] at hj
    simp at hj
    subst hj
    exact kOp_mono (hb.trans hw) (fun a' w' hl h' => wpF_of_wpK hs σ _ a' w' hl hB.2 h') (h w hw)
/-- A REGION THAT DRAWS ITS ORDER and stores into what is younger than b0. -/
theorem wp_region_old {id : Nat} {Q : Exit → Act → World → Prop} {a : Act} {w : World} {l : List Oper} (b0 : World) (hb : Later b0 w) (σ : List (Nat × Bool)) (hm : P.follows .mixedOrders = true) (hs : Region.noSelect l.toArray = true) (hn : (σ.length == l.length) = true)
    (hB : schedB .any l.toArray σ (Array.replicate l.length false) = true)
    (h : wpK P l.toArray b0 (fun a' w' => Q .normal a' w') σ a w.drew) : (Code.region id l.toArray true).wp P Q a w := by
  refine wp_region_any hm ?_
  have h1 := wpF_of_wpK (md := .any) hs σ _ a _ hb.drew hB h
  have h2 := wpAny_of_wpF (Q' := Q) (fun _ _ h => h) _ _ _ _ h1
  have e : l.toArray.size = σ.length := by simp at hn; simp [hn]
  rw [e]
  have e2 : l.length = σ.length := by simp at hn; exact hn.symm
  rw [e2] at h2
  exact h2
theorem wpK_mild {Q : Act → World → Prop} {i : Nat} {o : Oper} {σ : List (Nat × Bool)} {a : Act} {b : World} (ho : ops[i]? = some o)
    (h : ∀ K : Act → Prop, (∀ a', wpK P ops b0 Q σ a' b → K a') → if Region.wanted o (yielded ops a.tmps) then Oper.mildG P o a b0 K else K (a.put o.dst undef)) : wpK P ops b0 Q ((i, false) :: σ) a b := by
  refine ⟨o, ho, ?_⟩
  have := h _ (fun _ h => h)
  split
  · rename_i hw; rw [if_pos hw] at this; exact Oper.mild_of_mildG this
  · rename_i hw; rw [if_neg hw] at this; exact this
theorem wpK_nil {Q : Act → World → Prop} {a : Act} {b : World} (h : ∀ w, Later b w → Q a w) : wpK P ops b0 Q [] a b := h
theorem wpK_call {Q : Act → World → Prop} {i : Nat} {o : Oper} {σ : List (Nat × Bool)} {a : Act} {b : World} (ho : ops[i]? = some o) (hw : Region.wanted o (yielded ops a.tmps) = true) (f : FuncId) (hp : Plain P f) (xs : List Operand) (ts : Array TypeId) (hop : o.op = .call { callee := .value (.func f), args := xs.toArray, argTypes := ts }) (us : List Value) (hx : xs.map a.eval = us)
    (v : Value) (hc : ∀ w, Later b0 w → Calls P f us.toArray w fun e w' => e = .returned v ∧ Later w w')
    (h : wpK P ops b0 Q σ (a.put o.dst v) b) : wpK P ops b0 Q ((i, false) :: σ) a b := by
  refine ⟨o, ho, ?_⟩
  rw [if_pos hw]
  refine ⟨v, fun w hl => ?_, h⟩
  rw [run_call f hp xs ts hop us hx]
  exact ⟨rfl, hc w hl⟩
/-- a store of one cell, where it alone may come up -/
theorem wpK_store {Q : Act → World → Prop} {i : Nat} {o : Oper} {σ : List (Nat × Bool)} {a : Act} {b : World} (ho : ops[i]? = some o) (hgd : o.guard = none) (ty : TypeId) (x y : Operand) (hop : o.op = .store ty x y) (g off : Nat) (hx : a.eval x = .pointer (some ⟨g, off, none⟩)) (k : IntKind) (z : Int) (hy : a.eval y = .int k z)
    (hs : (P.info? ty).map (·.size) = some 1) (t : TypeId) (cs : List Value) (hB : Box b g t cs) (hl : off < cs.length) (hb : Later b0 b) (hg : b0.heap.size ≤ g)
    (h : ∀ wl, Later b wl → ∀ w', Box w' g t (cs.set off (.int k z)) → Later b0 w' → Hid (w' = wl.setCells g off [.int k z]) → wpK P ops b0 Q σ (a.put o.dst undef) w') : wpK P ops b0 Q ((i, true) :: σ) a b := by
  intro w hw
  unfold kOp
  simp only [ho]
  rw [if_pos (by simp [Region.wanted, hgd])]
  have hBw := hB.later hw
  have hc : w.cell? ⟨g, off, none⟩ = some (cs[off]'hl) := by rw [hBw.cell off, List.getElem?_eq_getElem hl]
  have hf := hBw.frozen off
  have hrun : (Instr.storeAt ty (.pointer (some ⟨g, off, none⟩)) (.int k z)).run P w = .ok () (w.setCells g off [.int k z]) := by
    simp [Instr.storeAt, Instr.sureAddr, storeVar, run_size hs, Value.cells, World.setCells]
    go_simp
  have hl0 : Later b0 (w.setCells g off [.int k z]) := (hb.trans hw).setCells hg _ _
  have h2 := h w hw _ (hBw.set off (.int k z)) hl0 rfl
  simp [execOp, hop, hx, hy, hrun, Result.andThen, Oper.keepUpon]
  exact ⟨hl0, h2⟩
end
end Go.Proofs.Ytccdgpadjfjoeaa

namespace Go.Proofs.Ytccdgpadjfjoeaa
open Go.ChangeShapes Go.WideShapes Go.ChangeAt Go.RowKit
set_option linter.unusedVariables false
set_option linter.unusedSimpArgs false

/-! The document's cdb: Known, Size, big. -/
def iv (L : List Int) : List Value := L.map fun x => .int .i64 x
theorem iv_get (L : List Int) (j : Nat) (h : j < L.length) : (iv L)[j]? = some (.int .i64 L[j]) := by simp [iv, h]
set_option maxHeartbeats 1000000 in
theorem rhas6_c {L : List Int} {v : Value} (x : Int) (w : World) (h : Rw 1 w v L.length (iv L)) : Calls Try.prog 26 #[v, .int .i64 x] w fun e w' => e = .returned (.bool (L.contains x)) ∧ w' = w := by
  obtain ⟨k, hk⟩ : ∃ k, k = L.length := ⟨_, rfl⟩
  rw [← hk] at h
  obtain ⟨ad, cap, rfl⟩ := h.shape
  have hkm := h.2.1
  unfold maxLen at hkm
  have HL := hide h
  have HK := hide hk
  clear h hk
  go_enter Try.func26, Try.ntmps26
  go_wp2_with fail
  go_loopw [5] (fun i wr => ∃ q : Nat, q ≤ k ∧ i = .int .i64 q ∧ wr = w ∧ Hid (∀ j (hj : j < L.length), j < q → L[j] ≠ x)) (fun i _ => k - (intOf i).toNat)
  case atStart => exact ⟨0, Nat.zero_le _, rfl, rfl, fun _ _ h => by omega⟩
  case round =>
    obtain ⟨q, hq, rfl, hw, hall⟩ := hrel
    subst hw
    by_cases hlt : q < k
    · obtain ⟨b, off, e, hr⟩ := HL.out.lies? (by omega)
      subst e
      have hqL : q < L.length := by have := HK.out; omega
      have k0 := hr _ _ (iv_get L q hqL)
      have hyes : Hid (L[q] = x → L.contains x = true) := fun h => by
        rw [List.contains_iff_mem]; exact h ▸ List.getElem_mem hqL
      have hno : Hid (L[q] ≠ x → ∀ j (hj : j < L.length), j < q + 1 → L[j] ≠ x) := by
        intro h j hj hjq
        by_cases hjq' : j = q
        · subst hjq'; exact h
        · exact hall.out j hj (by omega)
      generalize L[q] = t at *
      clear hr hall
      by_cases hA : t = x
      · have hAb : (t == x) = true := by simp [hA]
        have hy := hide (hyes.out hA)
        clear hA hyes hno
        go_wp2
        go_ret
        exact ⟨ret_bool hy.out.symm, rfl⟩
      · have hAb : (t == x) = false := by simp [hA]
        have hn := hide (hno.out hA)
        clear hA hyes hno
        go_wp2
        exact ⟨⟨q + 1, by omega, by simp, by simp, hn⟩, by simp only [intOf]; omega⟩
    · have hb : decide ((q : Int) < (k : Int)) = false := by simp; omega
      have hok : Hid (L.contains x = false) := by
        rw [Hid, ← Bool.not_eq_true, List.contains_iff_mem]
        intro hm
        obtain ⟨j, hj, e⟩ := List.getElem_of_mem hm
        exact hall.out j hj (by have := HK.out; omega) e
      clear hall
      go_wp2
      go_ret
      exact ⟨ret_bool hok.out.symm, rfl⟩
theorem known_has (op : Int) (h : classI op = 0) : ([0, 3, 18, 21, 85, 26, 90, 27, 30, 37, 158, 160] : List Int).contains op = knownB op := by
  rcases known_cases op with h1 | h1
  · rcases h1 with rfl | rfl | rfl | rfl | rfl | rfl | rfl | rfl | rfl | rfl | rfl | rfl | rfl | rfl | rfl | rfl | rfl | rfl | rfl | rfl | rfl | rfl | rfl | rfl | rfl <;> first | rfl | (exact absurd h (by decide))
  · rw [(known_other h1).1]
    obtain ⟨h0, h3, h8, h10, h18, h21, h26, h27, h30, h37, h40, h42, h47, h53, h85, h90, h136, h138, h143, h145, h158, h160, h168, h170, h175⟩ := h1
    simp [h0, h3, h18, h21, h26, h27, h30, h37, h85, h90, h158, h160]
theorem class_known (op : Int) (h : 0 < classI op) : knownB op = true := by
  rcases class_cases op with h1 | h1
  · rcases h1 with rfl | rfl | rfl | rfl | rfl | rfl | rfl | rfl | rfl | rfl | rfl | rfl | rfl <;> rfl
  · rw [class_other h1] at h; omega
theorem class_range (op : Int) : 0 ≤ classI op ∧ classI op ≤ 4 := by
  unfold classI
  split
  · decide
  split
  · decide
  split
  · decide
  split <;> decide
theorem rw_of_boxI {w : World} {g n : Nat} {t : TypeId} {xs : List Value} {L : List Int} (h : Box w g t xs) (hx : xs = iv L) (hl : L.length = n) (hn : n ≤ 1000000) : Rw 1 w (.slice (some ⟨g, 0, none⟩) n n) L.length (iv L) := by
  subst hx hl
  exact ⟨by simp [iv], by unfold maxLen; omega, _, L.length, rfl, Nat.le_refl _, .inr ⟨g, 0, rfl, h.range⟩⟩
set_option maxHeartbeats 1000000 in
theorem rknown_c (op : Int) (w : World) : Calls Try.prog 13 #[.int .i64 op] w fun e w' => e = .returned (.bool (knownB op)) ∧ Later w w' := by
  obtain ⟨k, hk⟩ : ∃ k, k = classI op := ⟨_, rfl⟩
  have hkr := class_range op
  rw [← hk] at hkr
  have BX := hide (Box.new w 3 #[.int .i64 0, .int .i64 3, .int .i64 18, .int .i64 21, .int .i64 85, .int .i64 26, .int .i64 90, .int .i64 27, .int .i64 30, .int .i64 37, .int .i64 158, .int .i64 160])
  have LL := hide ((Later.refl w).alloc (.cells #[.int .i64 0, .int .i64 3, .int .i64 18, .int .i64 21, .int .i64 85, .int .i64 26, .int .i64 90, .int .i64 27, .int .i64 30, .int .i64 37, .int .i64 158, .int .i64 160] 3))
  have HK := hide hk
  clear hk
  go_enter Try.func13, Try.ntmps13
  go_wp2_with fail
  generalize (w.alloc (.cells #[.int .i64 0, .int .i64 3, .int .i64 18, .int .i64 21, .int .i64 85, .int .i64 26, .int .i64 90, .int .i64 27, .int .i64 30, .int .i64 37, .int .i64 158, .int .i64 160] 3)) = w1 at *
  refine (rclass_c op _).mono ?_
  rintro e w2 ⟨rfl, hw⟩
  have hw2 := hw.symm
  subst hw2
  clear hw
  rw [← HK.out]
  by_cases h0 : 0 < k
  · have hy : Hid (knownB op = true) := class_known op (by rw [← HK.out]; exact h0)
    go_wp2
    go_ret
    exact ⟨ret_bool hy.out.symm, LL.out⟩
  · have h00 : k = 0 := by omega
    have hy := hide (known_has op (by rw [← HK.out]; exact h00))
    subst h00
    clear HK h0 hkr
    go_wp2_with fail
    refine (rhas6_c (L := [0, 3, 18, 21, 85, 26, 90, 27, 30, 37, 158, 160]) op _ (rw_of_boxI BX.out rfl rfl (by decide))).mono ?_
    rintro e w2 ⟨rfl, hw⟩
    have hw2 := hw.symm
    subst hw2
    clear hw
    rw [hy.out]
    clear hy
    go_wp2
    go_ret
    exact ⟨rfl, LL.out⟩
set_option maxHeartbeats 1000000 in
theorem rsize_c (op : Int) (w : World) : Calls Try.prog 11 #[.int .i64 op] w fun e w' => e = .returned (.int .i64 (sizeN op : Nat)) ∧ Later w w' := by
  have HS : Hid (sizeN op = if knownB op then (if op < 32 then 6 else if op < 128 then 10 else if op < 160 then 16 else 12) else 0) := rfl
  go_enter Try.func11, Try.ntmps11
  go_wp2_with fail
  refine (rknown_c op _).mono ?_
  rintro e w1 ⟨rfl, hl⟩
  have HL := hide hl
  clear hl
  cases hk : knownB op with
  | false =>
    rw [hk] at HS
    clear hk
    go_wp2
    go_ret
    exact ⟨by rw [HS.out]; rfl, HL.out⟩
  | true =>
    rw [hk] at HS
    clear hk
    by_cases h1 : op < 32
    · have e : Hid (sizeN op = 6) := by rw [Hid, HS.out]; simp [h1]
      go_wp2
      go_ret
      exact ⟨by rw [e.out]; rfl, HL.out⟩
    have b1 : decide (op < 32) = false := by simp; omega
    by_cases h2 : op < 128
    · have e : Hid (sizeN op = 10) := by rw [Hid, HS.out]; simp [h1, h2]
      go_wp2
      go_ret
      exact ⟨by rw [e.out]; rfl, HL.out⟩
    have b2 : decide (op < 128) = false := by simp; omega
    by_cases h3 : op < 160
    · have e : Hid (sizeN op = 16) := by rw [Hid, HS.out]; simp [h1, h2, h3]
      go_wp2
      go_ret
      exact ⟨by rw [e.out]; rfl, HL.out⟩
    have b3 : decide (op < 160) = false := by simp; omega
    have e : Hid (sizeN op = 12) := by rw [Hid, HS.out]; simp [h1, h2, h3]
    go_wp2
    go_ret
    exact ⟨by rw [e.out]; rfl, HL.out⟩
theorem rbig6_c {v : Value} {l : List UInt8} (a n : Int) (w : World) (h : Bs w v l) : Calls Try.prog 36 #[v, .int .i64 a, .int .i64 n] w fun e w' => e = .returned (.int .u64 (bigAt l a n : Nat)) ∧ Later w w' := by
  go_enter Try.func36, Try.ntmps36
  go_wp2_with fail
  refine (rbig_c _ _ _ h).mono ?_
  rintro e w' ⟨rfl, rfl⟩
  go_wp2
  go_ret
  exact ⟨rfl, Later.refl _⟩
end Go.Proofs.Ytccdgpadjfjoeaa

namespace Go.Proofs.Ytccdgpadjfjoeaa
open Go.ChangeShapes Go.WideShapes Go.ChangeAt Go.RowKit
set_option linter.unusedVariables false
set_option linter.unusedSimpArgs false

/-! rest: any other command. -/
def Bn (l : List UInt8) (i : Nat) : Nat := (l.getD i 0).toNat
theorem Bn_lt (l : List UInt8) (i : Nat) : Bn l i < 256 := UInt8.toNat_lt _
theorem Bs.cells6 {w : World} {v : Value} {l : List UInt8} {n : Nat} (h : Bs w v l) (hn : l.length = n) (hp : 0 < n) : ∃ b off cap, v = .slice (some ⟨b, off, none⟩) n cap ∧ ∀ i, i < n → ∀ W, Later w W → W.cell? ⟨b, off + i, none⟩ = some (.int .u8 (Bn l i : Int)) := by
  obtain ⟨hl, ad, cap, rfl, hc, hd⟩ := h
  rcases hd with hd | ⟨b, off, rfl, hr⟩
  · subst hd; simp at hn; omega
  · refine ⟨b, off, cap, by rw [hn], fun i hi W hW => hW.cellOf ?_⟩
    have h1 := hr i (by omega)
    rw [h1, Bn, List.getD_eq_getElem?_getD, List.getElem?_eq_getElem (by omega)]
    rfl
theorem Try.info1_int : (Try.prog.info? 3).map (·.size) = some 1 := by kernel_rfl
theorem Try.info1_u64 : (Try.prog.info? 24).map (·.size) = some 1 := by kernel_rfl
theorem tm2 (n : Nat) : ((n : Int)).tmod 2 = (n : Int) % 2 := Int.tmod_eq_emod_of_nonneg (by omega)
theorem tm4 (n : Nat) : ((n : Int)).tmod 4 = (n : Int) % 4 := Int.tmod_eq_emod_of_nonneg (by omega)
theorem tm32 (n : Nat) : ((n : Int)).tmod 32 = (n : Int) % 32 := Int.tmod_eq_emod_of_nonneg (by omega)
theorem tm64 (n : Nat) : ((n : Int)).tmod 64 = (n : Int) % 64 := Int.tmod_eq_emod_of_nonneg (by omega)
theorem td2 (n : Nat) : ((n : Int)).tdiv 2 = (n : Int) / 2 := Int.tdiv_eq_ediv_of_nonneg (by omega)
theorem td4 (n : Nat) : ((n : Int)).tdiv 4 = (n : Int) / 4 := Int.tdiv_eq_ediv_of_nonneg (by omega)
theorem td8 (n : Nat) : ((n : Int)).tdiv 8 = (n : Int) / 8 := Int.tdiv_eq_ediv_of_nonneg (by omega)
theorem td16 (n : Nat) : ((n : Int)).tdiv 16 = (n : Int) / 16 := Int.tdiv_eq_ediv_of_nonneg (by omega)
theorem td64 (n : Nat) : ((n : Int)).tdiv 64 = (n : Int) / 64 := Int.tdiv_eq_ediv_of_nonneg (by omega)
theorem tdm2 (n : Nat) : ((n : Int) / 2).tmod 2 = (n : Int) / 2 % 2 := Int.tmod_eq_emod_of_nonneg (by omega)
theorem tdm4 (n : Nat) : ((n : Int) / 4).tmod 2 = (n : Int) / 4 % 2 := Int.tmod_eq_emod_of_nonneg (by omega)
theorem tdm8 (n : Nat) : ((n : Int) / 8).tmod 2 = (n : Int) / 8 % 2 := Int.tmod_eq_emod_of_nonneg (by omega)
theorem tdm16 (n : Nat) : ((n : Int) / 16).tmod 2 = (n : Int) / 16 % 2 := Int.tmod_eq_emod_of_nonneg (by omega)
theorem wr_of {x : Int} (h : 0 ≤ x ∧ x ≤ 9223372036854775807) : IntKind.i64.wrap x = x := by rw [IntKind.wrap_i64]; omega
theorem wr8_of {x : Int} (h : 0 ≤ x ∧ x ≤ 255) : IntKind.u8.wrap x = x := by rw [IntKind.wrap_u8]; omega
abbrev lb (b : Bool) (x : Cmd) : Cmd × Bool := (x, b)
theorem wpList_storeI {P : Program} {w : World} {ops : Array Oper} {rest : List Oper} {op : Oper} {a : Act} {Q : Exit → Act → World → Prop} (hgd : op.guard = none) (ty : TypeId) (x y : Operand) (ho : op.op = .store ty x y) (g o : Nat) (hx : a.eval x = .pointer (some ⟨g, o, none⟩)) (k : IntKind) (z : Int) (hy : a.eval y = .int k z)
    (hs : (P.info? ty).map (·.size) = some 1) (t : TypeId) (cs : List Value) (hB : Box w g t cs) (hl : o < cs.length)
    (h : ∀ w', Box w' g t (cs.set o (.int k z)) → Hid (w' = w.setCells g o [.int k z]) → wpList P ops Q rest (a.put op.dst undef) w') : wpList P ops Q (op :: rest) a w := by
  refine wpList_plain hgd fun K hK => ?_
  have hc : w.cell? ⟨g, o, none⟩ = some (cs[o]'hl) := by rw [hB.cell o, List.getElem?_eq_getElem hl]
  have hf := hB.frozen o
  have hrun : (Instr.storeAt ty (.pointer (some ⟨g, o, none⟩)) (.int k z)).run P w = .ok () (w.setCells g o [.int k z]) := by
    simp [Instr.storeAt, Instr.sureAddr, storeVar, run_size hs, Value.cells, World.setCells]
    go_simp
  unfold Go.Oper.wp
  simp [execOp, ho, hx, hy, hrun, Result.andThen]
  exact hK _ _ (h _ (hB.set o _) rfl)
def restS (op : Int) (l : List UInt8) : Cmd × Bool :=
  if op = 3 then lb ((Bn l 1 : Int) % 2 == 0) (3, 0, (Bn l 4 : Int), 0, 0)
  else if op = 18 then lb (((Bn l 2 : Int) == 0) || ((Bn l 1 : Int) % 2 == 1)) (18, 0, (bigAt l 3 2 : Int), (Bn l 2 : Int), (Bn l 1 : Int) % 2)
  else if op = 21 then lb (((Bn l 1 : Int) / 16 % 2 == 1) && ((Bn l 1 : Int) % 2 == 0)) (21, 0, (Bn l 4 : Int), 0, 0)
  else if op = 85 then lb (((Bn l 1 : Int) / 16 % 2 == 1) && ((Bn l 1 : Int) % 2 == 0)) (85, 0, (bigAt l 7 2 : Int), 0, 0)
  else if op = 26 then lb ((Bn l 3 : Int) == 0) (26, 0, (Bn l 4 : Int), (Bn l 2 : Int) % 64, (Bn l 2 : Int) / 64)
  else if op = 90 then lb ((Bn l 3 : Int) == 0) (90, 0, (bigAt l 7 2 : Int), (Bn l 2 : Int) % 64, (Bn l 2 : Int) / 64)
  else if op = 27 then lb (decide ((Bn l 4 : Int) < 16)) (27, 0, 0, 0, (Bn l 4 : Int) % 4)
  else if op = 30 then lb (decide ((Bn l 4 : Int) % 4 < 2)) (30, 0, 0, 0, (Bn l 4 : Int) % 4)
  else if op = 37 then lb (((bigAt l 2 4 : Int) == 0) && ((Bn l 8 : Int) % 2 == 0)) (37, 0, 0, 0, 0)
  else if op = 158 then lb ((Bn l 1 : Int) % 32 == 16) (158, 0, (bigAt l 10 4 : Int), 0, 0)
  else if op = 160 then lb ((decide ((Bn l 2 : Int) ≤ 2)) && (decide ((16 : Int) ≤ (bigAt l 6 4 : Int)))) (160, 0, (bigAt l 6 4 : Int), 0, 0)
  else lb true (op, 0, 0, 0, 0)
theorem bigAt_lt {l : List UInt8} {a n : Int} (k : Nat) (h : n.toNat ≤ 4) : bigAt l a n < 4294967296 := by
  unfold bigAt
  split
  · have h1 := bigOf_lt (seg l a.toNat n.toNat)
    have h2 : (seg l a.toNat n.toNat).length ≤ 4 := by simp [seg]; omega
    exact Nat.lt_of_lt_of_le h1 (by have := Nat.pow_le_pow_right (show 0 < 256 by omega) h2; simpa using this)
  · omega
set_option maxRecDepth 20000 in
set_option maxHeartbeats 1000000 in
theorem rrest_3 {v : Value} {l : List UInt8} (w : World) (h : Bs w v l) (hl : l.length = 6) : Calls Try.prog 24 #[.int .i64 3, v] w fun e w' => e = .returned (.tuple #[cval (restS 3 l).1, .bool (restS 3 l).2]) ∧ Later w w' := by
  have HR : Hid (restS 3 l = lb ((Bn l 1 : Int) % 2 == 0) (3, 0, (Bn l 4 : Int), 0, 0)) := rfl
  obtain ⟨b, off, cap, rfl, hc⟩ := h.cells6 hl (by omega)
  have HB := hide h
  have b1 := Bn_lt l 1
  have b2 := Bn_lt l 2
  have b3 := Bn_lt l 3
  have b4 := Bn_lt l 4
  have b8 := Bn_lt l 8
  have HC := hide hc
  clear hc h hl
  have z1 := wr_of (x := (Bn l 1 : Int)) (by omega)
  have z2 := wr_of (x := (Bn l 2 : Int)) (by omega)
  have z3 := wr_of (x := (Bn l 3 : Int)) (by omega)
  have z4 := wr_of (x := (Bn l 4 : Int)) (by omega)
  have z5 := wr_of (x := (Bn l 1 : Int) % 2) (by omega)
  have z6 := wr_of (x := (Bn l 2 : Int) % 64) (by omega)
  have z7 := wr_of (x := (Bn l 2 : Int) / 64) (by omega)
  have z8 := wr_of (x := (Bn l 4 : Int) % 4) (by omega)
  have v1 := wr8_of (x := (Bn l 1 : Int) / 16) (by omega)
  have v2 := wr8_of (x := (Bn l 2 : Int) / 64) (by omega)
  have v3 := wr8_of (x := (Bn l 1 : Int) / 8) (by omega)
  have v4 := wr8_of (x := (Bn l 1 : Int) / 4) (by omega)
  have v5 := wr8_of (x := (Bn l 1 : Int) / 2) (by omega)
  have m1 := tm2
  have m2 := tm4
  have m3 := tm32
  have m4 := tm64
  have m5 := td16
  have m6 := td64
  have m7 := tdm16
  have B4 := hide (((Box.new w 26 #[.int .i64 0, .int .u64 0, .int .i64 0, .int .i64 0, .int .i64 0])).alloc (.cells #[.int .i64 3, .int .u64 0, .int .i64 0, .int .i64 0, .int .i64 0] 26))
  have B6 := hide (Box.new' (w.alloc (.cells #[.int .i64 0, .int .u64 0, .int .i64 0, .int .i64 0, .int .i64 0] 26)) 26 #[.int .i64 3, .int .u64 0, .int .i64 0, .int .i64 0, .int .i64 0] _ rfl (w.heap.size + 1) (by simp))
  have LL := hide (((Later.refl w).alloc (.cells #[.int .i64 0, .int .u64 0, .int .i64 0, .int .i64 0, .int .i64 0] 26)).alloc (.cells #[.int .i64 3, .int .u64 0, .int .i64 0, .int .i64 0, .int .i64 0] 26))
  go_enter Try.func24, Try.ntmps24
  go_wp2_with fail
  generalize ((w.alloc (.cells #[.int .i64 0, .int .u64 0, .int .i64 0, .int .i64 0, .int .i64 0] 26)).alloc (.cells #[.int .i64 3, .int .u64 0, .int .i64 0, .int .i64 0, .int .i64 0] 26)) = w1 at *
  refine wp_region_old w LL.out [(0, false), (1, false), (2, false), (3, false), (4, false), (5, false), (6, false), (7, false), (8, false), (9, false), (10, true), (11, false)] (by kernel_rfl) (by kernel_rfl) (by kernel_rfl) (by kernel_rfl) ?_
  have k1 := fun r => HC.out 1 (by omega) _ (later_rg w r)
  have k2 := fun r => HC.out 2 (by omega) _ (later_rg w r)
  have k3 := fun r => HC.out 3 (by omega) _ (later_rg w r)
  have k4 := fun r => HC.out 4 (by omega) _ (later_rg w r)
  replace B4 := hide (B4.out.later (Later.refl _).drew)
  replace B6 := hide (B6.out.later (Later.refl _).drew)
  replace LL := hide (LL.out.trans (Later.refl _).drew)
  iterate 10 (refine wpK_mild rfl (fun K hK => ?_); go_simp; refine hK _ ?_; clear hK K)
  refine wpK_store rfl rfl 3 (.tmp 22) (.tmp 16) rfl (w.heap.size + 1) 2 rfl .i64 (Bn l 4 : Int) rfl Try.info1_int _ _ B6.out (by simp) LL.out (Nat.le_succ _) ?_
  intro wl hl w2 hB hL hw
  replace B4 := hide ((B4.out.later hl).apart (w.heap.size + 1) (by omega) [.int .i64 (Bn l 4 : Int)] 2)
  rw [← hw.out] at B4
  replace B6 : Hid (Box w2 (w.heap.size + 1) 26 (cc (3, 0, (Bn l 4 : Int), 0, 0))) := hB
  replace LL := hide hL
  clear hl hB hL hw
  clear wl
  iterate 1 (refine wpK_mild rfl (fun K hK => ?_); go_simp; refine hK _ ?_; clear hK K)
  refine wpK_nil (fun wn hn => ?_)
  replace B4 := hide (B4.out.later hn)
  replace B6 := hide (B6.out.later hn)
  replace LL := hide (LL.out.trans hn)
  clear hn k1 k2 k3 k4
  have e0 := B6.out.cell 0
  have e1 := B6.out.cell 1
  have e2 := B6.out.cell 2
  have e3 := B6.out.cell 3
  have e4 := B6.out.cell 4
  go_wp2_with (refine wpList_storeU rfl 26 (.tmp 4) (.tmp 195) rfl w.heap.size 0 rfl (cc (3, 0, (Bn l 4 : Int), 0, 0)) rfl Try.info_cmd (cc_one _) _ _ B4.out (by simp) ?_)
  intro wz hz
  have BZ : Hid (Box wz w.heap.size 26 (cc (3, 0, (Bn l 4 : Int), 0, 0))) := by rw [hz.out]; exact B4.out.all _ rfl
  have LZ : Hid (Later w wz) := by rw [hz.out]; exact LL.out.setCells (Nat.le_refl _) _ _
  clear hz e0 e1 e2 e3 e4
  go_wp2
  refine bodyPost_ret (results_cell_tmp rfl _ _ _ w.heap.size 0 rfl _ (.bool ((Bn l 1 : Int) % 2 == 0)) (load_cmd (c := (3, 0, (Bn l 4 : Int), 0, 0)) BZ.out rfl) (by rfl)) rfl ⟨by rw [HR.out], LZ.out⟩
end Go.Proofs.Ytccdgpadjfjoeaa
