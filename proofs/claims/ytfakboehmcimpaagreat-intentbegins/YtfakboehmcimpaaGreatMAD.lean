import Derived.Test.YtfakboehmcimpaaGreatMAA
import Derived.Test.YtfakboehmcimpaaGreatMAC
namespace Go.Proofs.YtfakboehmcimpaaGreat
open Go Go.RowKit
set_option linter.unusedVariables false
set_option maxRecDepth 4000
set_option linter.unusedSimpArgs false
/-! Regions that draw their order, further: a walk may fork where two operations that make memory may come up, and the last operations of a region (its stores) may do whatever they do. -/
section
variable {P : Program} {ops : Array Oper} {md : Region.Mode} {Q : Exit → Act → World → Prop}
/-- as 'wpE', up to the region's last operations (tl), T behind -/
def wpX (P : Program) (md : Region.Mode) (ops : Array Oper) (tl : Nat → Bool) (T : Array Bool → Act → World → Prop) : Nat → Array Bool → Act → World → Prop
  | 0, listed, a, b => (∀ i ∈ Region.ready md ops listed, tl i = true) ∧ ∀ w, Later b w → T listed a w
  | n + 1, listed, a, b => ∀ w, Later b w → Region.ready md ops listed ≠ [] ∧ ∀ i ∈ Region.ready md ops listed, tl i = false ∧ lOp P ops i (fun a' w' => wpX P md ops tl T n (listed.setIfInBounds i true) a' w') a w
theorem wpX_base {tl : Nat → Bool} {T : Array Bool → Act → World → Prop} {b c : World} (hl : Later b c) : ∀ (n : Nat) (listed : Array Bool) (a : Act), wpX P md ops tl T n listed a b → wpX P md ops tl T n listed a c
  | 0, _, _, h => ⟨h.1, fun w hw => h.2 w (hl.trans hw)⟩
  | _ + 1, _, _, h => fun w hw => h w (hl.trans hw)
theorem wpAny_of_wpX {tl : Nat → Bool} {m : Nat} : ∀ (n : Nat) (listed : Array Bool) (a : Act) (w : World), wpX P md ops tl (fun listed a w => wpAny P md ops Q m listed a w) n listed a w → wpAny P md ops Q (n + m) listed a w
  | 0, _, _, w, h => by rw [Nat.zero_add]; exact h.2 w (Later.refl _)
  | n + 1, listed, a, w, h => by
    rw [Nat.add_right_comm]
    have h1 := h w (Later.refl _)
    exact ⟨fun h0 => absurd h0 h1.1, fun i hi => wpOp_mono (fun a' w' h' => wpAny_of_wpX n _ a' w' h') (wpOp_of_lOp (h1.2 i hi).2)⟩
/-- what is listed has all that it waits for listed -/
def Closed (md : Region.Mode) (ops : Array Oper) (listed : Array Bool) : Prop := ∀ x ox, ops[x]? = some ox → listed.getD x false = true → ∀ e ∈ ox.after, Region.binds md e = true → listed.getD e.on false = true
theorem Closed.add {listed : Array Bool} (h : Closed md ops listed) {j : Nat} (hj : j ∈ Region.ready md ops listed) : Closed md ops (listed.setIfInBounds j true) := fun x ox hx hl e he hb => by
  refine getD_set_true ?_
  by_cases hjx : j = x
  · subst hjx
    obtain ⟨_, o, ho, hall⟩ := mem_ready.1 hj
    rw [ho] at hx
    cases hx
    exact hall e he hb
  · rw [getD_set_ne false hjx] at hl
    exact h x ox hx hl e he hb
theorem Closed.start (n : Nat) : Closed md ops (Array.replicate n false) := fun x ox _ hl => by
  exfalso
  simp [Array.getElem?_replicate] at hl
  split at hl <;> simp at hl
/-- j waits for i, through others maybe -/
def reachB (md : Region.Mode) (ops : Array Oper) : Nat → Nat → Nat → Bool
  | 0, _, _ => false
  | n + 1, j, i => match ops[j]? with
    | none => false
    | some o => o.after.any fun e => Region.binds md e && (e.on == i || reachB md ops n e.on i)
theorem reach_listed {listed : Array Bool} (hc : Closed md ops listed) {i : Nat} : ∀ (n j : Nat) (oj : Oper), ops[j]? = some oj → (∀ e ∈ oj.after, Region.binds md e = true → listed.getD e.on false = true) → reachB md ops n j i = true → listed.getD i false = true
  | 0, _, _, _, _, h => by simp [reachB] at h
  | n + 1, j, oj, hj, hall, h => by
    simp only [reachB, hj, Array.any_eq_true'] at h
    obtain ⟨e, he, h⟩ := h
    simp only [Bool.and_eq_true, Bool.or_eq_true, beq_iff_eq] at h
    have h1 := hall e he h.1
    rcases h.2 with h2 | h2
    · rw [← h2]; exact h1
    · cases ho : ops[e.on]? with
      | none => cases n <;> simp [reachB, ho] at h2
      | some o => exact reach_listed hc n e.on o ho (fun e' he' hb' => hc e.on o ho h1 e' he' hb') h2
theorem wpX_first {tl : Nat → Bool} {T : Array Bool → Act → World → Prop} {i : Nat} {oi : Oper} {v : Value} (hi : ops[i]? = some oi) (hti : tl i = false) (hsel : ∀ (j : Nat) (o : Oper) cs d, ops[j]? = some o → o.op ≠ .select cs d)
    (hlast : ∀ j oj, ops[j]? = some oj → tl j = true → reachB md ops ops.size j i = true) :
    ∀ (n : Nat) (listed : Array Bool) (a : Act) (b : World), Closed md ops listed →
      (∀ j oj, ops[j]? = some oj → j ≠ i → listed.getD j true = false → (∀ e ∈ oj.after, Region.binds md e = true → e.on ≠ i) → oi.apart ops oj = true) →
      i ∈ Region.ready md ops listed → Gives P ops b oi v a →
      wpX P md ops tl T n (listed.setIfInBounds i true) (a.put oi.dst v) b → wpX P md ops tl T (n + 1) listed a b := by
  intro n
  induction n with
  | zero =>
    intro listed a b hcl _ hr hy H w hw
    refine ⟨fun h => (by rw [h] at hr; cases hr), fun j hj => ?_⟩
    by_cases hji : j = i
    · subst hji; exact ⟨hti, hy.lOp hi hw fun w' hw' => wpX_base (hw.trans hw') 0 _ _ H⟩
    · exfalso
      have htj := H.1 j (ready_mono hj hji)
      obtain ⟨_, oj, hoj, hall⟩ := mem_ready.1 hj
      have h1 := reach_listed hcl _ j oj hoj hall (hlast j oj hoj htj)
      have h0 := (mem_ready.1 hr).1
      rcases Nat.lt_or_ge i listed.size with h' | h'
      · simp [h'] at h0 h1; rw [h0] at h1; cases h1
      · simp [Array.getElem?_eq_none h'] at h1
  | succ n ih =>
    intro listed a b hcl hfree hr hy H w hw
    refine ⟨fun h => (by rw [h] at hr; cases hr), fun j hj => ?_⟩
    by_cases hji : j = i
    · subst hji; exact ⟨hti, hy.lOp hi hw fun w' hw' => wpX_base (hw.trans hw') (n + 1) _ _ H⟩
    · have h1 := (H w hw).2 j (ready_mono hj hji)
      obtain ⟨hjun, oj, hoj, hall⟩ := mem_ready.1 hj
      have hnot : ∀ e ∈ oj.after, Region.binds md e = true → e.on ≠ i := fun e he hb heq => by
        have h1 := hall e he hb
        have h0 := (mem_ready.1 hr).1
        rw [heq] at h1
        rcases Nat.lt_or_ge i listed.size with h' | h'
        · simp [h'] at h0 h1; rw [h0] at h1; cases h1
        · simp [Array.getElem?_eq_none h'] at h1
      have h2 := lOp_put hoj (hfree j oj hoj hji hjun hnot) (fun cs d => hsel i oi cs d hi) (fun cs d => hsel j oj cs d hoj) hy h1.2
      have hfree' : ∀ k ok, ops[k]? = some ok → k ≠ i → (listed.setIfInBounds j true).getD k true = false →
          (∀ e ∈ ok.after, Region.binds md e = true → e.on ≠ i) → oi.apart ops ok = true := fun k ok hk hki hun hno => by
        refine hfree k ok hk hki ?_ hno
        by_cases hjk : j = k
        · subst hjk; exact hjun
        · rw [getD_set_ne true hjk] at hun; exact hun
      refine ⟨h1.1, lOp_mono (fun a' w' hl h3 => ih (listed.setIfInBounds j true) a' w' (hcl.add hj) hfree' (ready_mono hr (Ne.symm hji)) (h3.1.later (hw.trans hl)) ?_) h2⟩
      rw [Array.setIfInBounds_comm _ _ hji]
      exact h3.2
/-- the last operations, one behind the other -/
def wpL (P : Program) (ops : Array Oper) (Q : Exit → Act → World → Prop) : List Nat → Act → World → Prop
  | [], a, w => Q .normal a w
  | i :: τ, a, w => wpOp P ops Q i (fun a' w' => wpL P ops Q τ a' w') a w
def tailB (md : Region.Mode) (ops : Array Oper) : List Nat → Array Bool → Bool
  | [], listed => (Region.ready md ops listed).isEmpty
  | i :: τ, listed => (Region.ready md ops listed == [i]) && tailB md ops τ (listed.setIfInBounds i true)
theorem wpAny_of_wpL : ∀ (τ : List Nat) (listed : Array Bool) (a : Act) (w : World), tailB md ops τ listed = true → wpL P ops Q τ a w → wpAny P md ops Q τ.length listed a w
  | [], listed, a, w, hB, h => ⟨by simpa [tailB] using hB, h⟩
  | i :: τ, listed, a, w, hB, h => by
    simp only [tailB, Bool.and_eq_true, beq_iff_eq] at hB
    refine ⟨fun h0 => (by rw [hB.1] at h0; cases h0), fun j hj => ?_⟩
    rw [hB.1] at hj
    simp at hj
    subst hj
    exact wpOp_mono (fun a' w' h' => wpAny_of_wpL τ _ a' w' hB.2 h') h
/-- every last operation waits for i -/
def waitsB (md : Region.Mode) (ops : Array Oper) (τ : List Nat) (i : Nat) : Bool := τ.all fun j => reachB md ops ops.size j i
theorem waits_spec {τ : List Nat} {i : Nat} (h : waitsB md ops τ i = true) : ∀ j oj, ops[j]? = some oj → τ.contains j = true → reachB md ops ops.size j i = true := fun j oj hj hc => by
  simp only [waitsB, List.all_eq_true] at h
  exact h j (by simpa using hc)
/-! A bag of operations that make memory, in whatever order they come up: of each one is told what its value is (R), out of what is told of those that it waits for. -/
def vUpon (P : Program) (w : World) (R : Value → World → Prop) : Result Next → Prop
  | .ok (.value u) w' => Later w w' ∧ R u w'
  | .ok .skip w' => Later w w' ∧ R undef w'
  | .ok (.enter f args) w' => w' = w ∧ Calls P f args w (fun e w'' => ∃ u, e = .returned u ∧ Later w w'' ∧ R u w'')
  | _ => False
def lVal (P : Program) (ops : Array Oper) (i : Nat) (R : Value → World → Prop) (a : Act) (w : World) : Prop :=
  match ops[i]? with
  | none => False
  | some o => if Region.wanted o (yielded ops a.tmps) then vUpon P w R ((execOp a.eval o).run P w) else R undef w
def dstOf (ops : Array Oper) (i : Nat) : Option Tmp := (ops[i]?).bind (·.dst)
def putAll (ops : Array Oper) (l : List Nat) (vals : Nat → Value) (a : Act) : Act := l.foldl (fun a i => a.put (dstOf ops i) (vals i)) a
def setAll (l : List Nat) (listed : Array Bool) : Array Bool := l.foldl (fun s i => s.setIfInBounds i true) listed
def upd (vals : Nat → Value) (i : Nat) (v : Value) : Nat → Value := fun k => if k = i then v else vals k
theorem upd_same (vals : Nat → Value) (i : Nat) (v : Value) : upd vals i v i = v := by simp [upd]
theorem upd_ne (vals : Nat → Value) (i : Nat) (v : Value) {k : Nat} (h : k ≠ i) : upd vals i v k = vals k := by simp [upd, h]
theorem lOp_of_lVal {i : Nat} {R : Value → World → Prop} {K : Act → World → Prop} {a : Act} {w : World} (h : lVal P ops i R a w) (hK : ∀ v w', Later w w' → R v w' → K (a.put (dstOf ops i) v) w') : lOp P ops i K a w := by
  unfold lVal at h
  unfold lOp
  unfold dstOf at hK
  cases ho : ops[i]? with
  | none => simp [ho] at h
  | some o =>
    simp only [ho, Option.bind_some] at h hK ⊢
    split
    · rename_i hw
      simp only [hw, if_true] at h
      unfold Oper.loud
      generalize (execOp a.eval o).run P w = r at *
      cases r with
      | ok n w' =>
        cases n <;> simp only [vUpon] at h <;> simp only [Oper.loudUpon]
        case value u => exact ⟨h.1, hK _ _ h.1 h.2⟩
        case skip => exact ⟨h.1, hK _ _ h.1 h.2⟩
        case enter f args => exact ⟨h.1, h.2.mono fun e w'' ⟨u, he, hl, hk⟩ => ⟨u, he, hl, hK _ _ hl hk⟩⟩
      | halt x w' => simp only [vUpon] at h
    · rename_i hw
      simp only [hw] at h
      exact hK _ _ (Later.refl _) h
theorem lVal_put {j : Nat} {oj : Oper} {R : Value → World → Prop} {a : Act} {w : World} {d : Option Tmp} {v : Value} (hj : ops[j]? = some oj) (hs : ∀ cs d, oj.op ≠ .select cs d) (hn : ∀ t, d = some t → t ∉ oj.looksAt ops) (h : lVal P ops j R a w) : lVal P ops j R (a.put d v) w := by
  unfold lVal at *
  simp only [hj] at *
  rw [wanted_put oj a d v hn, execOp_put oj hs a d v hn]
  exact h
theorem lVal_putAll {j : Nat} {oj : Oper} {R : Value → World → Prop} {w : World} {vals : Nat → Value} (hj : ops[j]? = some oj) (hs : ∀ cs d, oj.op ≠ .select cs d) : ∀ (l : List Nat) (a : Act), (∀ k ∈ l, ∀ t, dstOf ops k = some t → t ∉ oj.looksAt ops) → lVal P ops j R a w → lVal P ops j R (putAll ops l vals a) w
  | [], _, _, h => h
  | k :: l, a, hn, h => lVal_putAll hj hs l (a.put (dstOf ops k) (vals k)) (fun x hx => hn x (by simp [hx])) (lVal_put hj hs (hn k (by simp)) h)
theorem putAll_append (l m : List Nat) (vals : Nat → Value) (a : Act) : putAll ops (l ++ m) vals a = putAll ops m vals (putAll ops l vals a) := by simp [putAll, List.foldl_append]
theorem putAll_upd {vals : Nat → Value} {j : Nat} {v : Value} : ∀ (l : List Nat) (a : Act), j ∉ l → putAll ops l (upd vals j v) a = putAll ops l vals a
  | [], _, _ => rfl
  | k :: l, a, hn => by
    show putAll ops l (upd vals j v) (a.put (dstOf ops k) (upd vals j v k)) = putAll ops l vals (a.put (dstOf ops k) (vals k))
    rw [putAll_upd l _ (fun h => hn (by simp [h])), upd_ne vals j v (fun h => hn (by simp [h]))]
def dstsB (ops : Array Oper) : List Nat → Bool
  | [] => true
  | i :: s => s.all (fun j => match dstOf ops i with | none => true | some d => dstOf ops j != some d) && dstsB ops s
theorem dsts_spec : ∀ (l : List Nat), dstsB ops l = true → ∀ x ∈ l, ∀ y ∈ l, x ≠ y → ∀ d, dstOf ops x = some d → dstOf ops y ≠ some d
  | [], _, x, hx, _, _, _, _, _ => by cases hx
  | i :: s, h, x, hx, y, hy, hne, d, hd => by
    simp only [dstsB, Bool.and_eq_true, List.all_eq_true] at h
    rcases List.mem_cons.1 hx with hx1 | hx1
    · subst hx1
      rcases List.mem_cons.1 hy with hy1 | hy1
      · exact absurd hy1.symm hne
      · have := h.1 y hy1
        rw [hd] at this
        simpa using this
    · rcases List.mem_cons.1 hy with hy1 | hy1
      · subst hy1
        have := h.1 x hx1
        intro hy'
        rw [hy'] at this
        simp [hd] at this
      · exact dsts_spec s h.2 x hx1 y hy1 hne d hd
theorem putAll_perm {l m : List Nat} (hp : l.Perm m) (hd : ∀ x ∈ l, ∀ y ∈ l, x ≠ y → ∀ d, dstOf ops x = some d → dstOf ops y ≠ some d) (vals : Nat → Value) (a : Act) : putAll ops l vals a = putAll ops m vals a := by
  unfold putAll
  refine List.Perm.foldl_eq' hp (fun x hx y hy z => ?_) a
  by_cases h : x = y
  · subst h; rfl
  · exact (Act.put_comm z (vals x) (vals y) (hd x hx y hy h))
theorem setAll_perm {l m : List Nat} (hp : l.Perm m) (listed : Array Bool) : setAll l listed = setAll m listed := by
  unfold setAll
  refine List.Perm.foldl_eq' hp (fun x hx y hy z => ?_) listed
  by_cases h : x = y
  · subst h; rfl
  · exact Array.setIfInBounds_comm _ _ h
theorem setAll_size : ∀ (l : List Nat) (listed : Array Bool), (setAll l listed).size = listed.size
  | [], _ => rfl
  | i :: l, listed => by show (setAll l (listed.setIfInBounds i true)).size = _; rw [setAll_size l]; simp
theorem setAll_get : ∀ (l : List Nat) (listed : Array Bool) (x : Nat) (d : Bool), x < listed.size → (setAll l listed).getD x d = (listed.getD x d || decide (x ∈ l))
  | [], listed, x, d, _ => by simp [setAll]
  | i :: l, listed, x, d, hx => by
    show (setAll l (listed.setIfInBounds i true)).getD x d = _
    rw [setAll_get l _ x d (by simpa using hx)]
    by_cases h : i = x
    · subst h; simp [hx]
    · rw [getD_set_ne d h]
      have : ¬ x = i := fun e => h e.symm
      simp [this]
/-- each is ready when those ahead of it are done -/
def topB (md : Region.Mode) (ops : Array Oper) : List Nat → Array Bool → Bool
  | [], _ => true
  | i :: s, listed => (Region.ready md ops listed).contains i && topB md ops s (listed.setIfInBounds i true)
theorem top_spec : ∀ (s : List Nat) (listed : Array Bool), topB md ops s listed = true → ∀ s1 i s2, s = s1 ++ i :: s2 → i ∈ Region.ready md ops (setAll s1 listed)
  | [], _, _, s1, i, s2, h => by simp at h
  | k :: s, listed, hB, s1, i, s2, h => by
    simp only [topB, Bool.and_eq_true] at hB
    cases s1 with
    | nil =>
      simp at h
      obtain ⟨rfl, rfl⟩ := h
      have : k ∈ Region.ready md ops listed := by simpa using hB.1
      exact this
    | cons x s1 =>
      simp at h
      obtain ⟨rfl, rfl⟩ := h
      exact top_spec _ _ hB.2 s1 i s2 rfl
theorem first_not : ∀ (s l : List Nat), (∃ x ∈ s, x ∉ l) → ∃ s1 i s2, s = s1 ++ i :: s2 ∧ (∀ x ∈ s1, x ∈ l) ∧ i ∉ l
  | [], l, ⟨x, hx, _⟩ => by cases hx
  | k :: s, l, ⟨x, hx, hn⟩ => by
    by_cases hk : k ∈ l
    · have : x ∈ s := by
        rcases List.mem_cons.1 hx with rfl | h
        · exact absurd hk hn
        · exact h
      obtain ⟨s1, i, s2, rfl, h1, h2⟩ := first_not s l ⟨x, this, hn⟩
      exact ⟨k :: s1, i, s2, rfl, fun y hy => by rcases List.mem_cons.1 hy with rfl | hy; exact hk; exact h1 y hy, h2⟩
    · exact ⟨[], k, s, rfl, by simp, hk⟩
/-- j waits for k -/
def dep (md : Region.Mode) (ops : Array Oper) (j k : Nat) : Bool := reachB md ops ops.size j k
/-- what is asked of a bag -/
def bagP (P : Program) (ops : Array Oper) (Q : Exit → Act → World → Prop) (τ σ : List Nat) (a : Act) (b : World) : Prop :=
  ∃ R : Nat → (Nat → Value) → World → Prop,
    (∀ i ∈ σ, ∀ vals w w', Later w w' → R i vals w → R i vals w') ∧
    (∀ i ∈ σ, ∀ k ∈ σ, k ≠ i → dep .any ops i k = false → ∀ vals v w, R i vals w → R i (upd vals k v) w) ∧
    (∀ i ∈ σ, ∀ vals w, Later b w → (∀ k ∈ σ, dep .any ops i k = true → R k vals w) → lVal P ops i (fun v w' => R i (upd vals i v) w') (putAll ops (σ.filter fun k => dep .any ops i k) vals a) w) ∧
    (∀ vals w, Later b w → (∀ k ∈ σ, R k vals w) → wpL P ops Q τ (putAll ops σ vals a) w)
/-- j looks at nothing of the bag but what it waits for -/
def blindB (ops : Array Oper) (σ : List Nat) (j : Nat) : Bool := σ.all fun k => k == j || dep .any ops j k || (match ops[j]?, dstOf ops k with | some oj, some d => !(oj.looksAt ops).contains d | _, _ => true)
theorem blind_spec {σ : List Nat} {j : Nat} {oj : Oper} (h : blindB ops σ j = true) (hj : ops[j]? = some oj) : ∀ k ∈ σ, k ≠ j → dep .any ops j k = false → ∀ t, dstOf ops k = some t → t ∉ oj.looksAt ops := by
  intro k hk hne hd t ht
  simp only [blindB, List.all_eq_true] at h
  have := h k hk
  simp only [hj, ht, hd, Bool.or_eq_true, beq_iff_eq, hne, Bool.false_eq_true, false_or, Bool.not_eq_true'] at this
  simpa using this
def bagB (ops : Array Oper) (τ σ : List Nat) (listed : Array Bool) : Bool :=
  (listed.size == ops.size) && topB .any ops σ listed && dstsB ops σ && σ.all (fun i => blindB ops σ i && !τ.contains i && waitsB .any ops τ i && !listed.getD i true) && decide σ.Nodup &&
    (List.range ops.size).all (fun x => listed.getD x false || σ.contains x || τ.contains x) && tailB .any ops τ (setAll σ listed)
theorem wpX_bag {τ σ : List Nat} {listed0 : Array Bool} {a : Act} {b : World} (hs : Region.noSelect ops = true) (hB : bagB ops τ σ listed0 = true) (hcl0 : Closed .any ops listed0) {R : Nat → (Nat → Value) → World → Prop}
    (hst : ∀ i ∈ σ, ∀ vals w w', Later w w' → R i vals w → R i vals w')
    (hlo : ∀ i ∈ σ, ∀ k ∈ σ, k ≠ i → dep .any ops i k = false → ∀ vals v w, R i vals w → R i (upd vals k v) w)
    (hsp : ∀ i ∈ σ, ∀ vals w, Later b w → (∀ k ∈ σ, dep .any ops i k = true → R k vals w) → lVal P ops i (fun v w' => R i (upd vals i v) w') (putAll ops (σ.filter fun k => dep .any ops i k) vals a) w)
    (hfi : ∀ vals w, Later b w → (∀ k ∈ σ, R k vals w) → wpL P ops Q τ (putAll ops σ vals a) w) :
    ∀ (n : Nat) (l r : List Nat) (vals : Nat → Value) (w0 : World), r.length = n → (l ++ r).Perm σ → Closed .any ops (setAll l listed0) → Later b w0 → (∀ k ∈ l, R k vals w0) →
      wpX P .any ops (fun i => τ.contains i) (fun listed a w => wpAny P .any ops Q τ.length listed a w) n (setAll l listed0) (putAll ops l vals a) w0 := by
  simp only [bagB, Bool.and_eq_true, beq_iff_eq, decide_eq_true_eq, List.all_eq_true, Bool.not_eq_true', List.mem_range, Bool.or_eq_true] at hB
  obtain ⟨⟨⟨⟨⟨⟨hsz, htop⟩, hds⟩, hall⟩, hnd⟩, hcov⟩, htail⟩ := hB
  have hdst := dsts_spec σ hds
  have hun : ∀ i ∈ σ, i < ops.size ∧ listed0.getD i true = false := fun i hi => by
    have h0 := (hall i hi).2
    refine ⟨?_, h0⟩
    rcases Nat.lt_or_ge i listed0.size with h' | h'
    · rw [← hsz]; exact h'
    · simp [Array.getElem?_eq_none h'] at h0
  have hunF : ∀ i ∈ σ, listed0.getD i false = false := fun i hi => by
    have h1 := hun i hi
    have : i < listed0.size := by rw [hsz]; exact h1.1
    have h2 := h1.2
    simp [this] at h2 ⊢
    exact h2
  intro n
  induction n with
  | zero =>
    intro l r vals w0 hr hp hcl hb hR
    have hr0 : r = [] := List.eq_nil_of_length_eq_zero hr
    subst hr0
    rw [List.append_nil] at hp
    have e1 : setAll l listed0 = setAll σ listed0 := setAll_perm hp _
    refine ⟨fun i hi => ?_, fun w hw => ?_⟩
    · obtain ⟨h0, o, ho, _⟩ := mem_ready.1 hi
      have hlt := (Array.getElem?_eq_some_iff.1 ho).1
      rcases hcov i hlt with (h | h) | h
      · rw [setAll_get l listed0 i true (by rw [hsz]; exact hlt)] at h0
        have hlt' : i < listed0.size := by rw [hsz]; exact hlt
        simp [hlt'] at h0 h
        rw [h] at h0
        simp at h0
      · have : i ∈ l := hp.mem_iff.2 (by simpa using h)
        rw [setAll_get l listed0 i true (by rw [hsz]; exact hlt)] at h0
        simp [this] at h0
      · exact h
    · rw [putAll_perm hp (fun x hx y hy => hdst x (hp.mem_iff.1 hx) y (hp.mem_iff.1 hy))]
      show wpAny P .any ops Q τ.length (setAll l listed0) (putAll ops σ vals a) w
      rw [e1]
      exact wpAny_of_wpL τ _ _ w htail (hfi vals w (hb.trans hw) fun k hk => hst k hk vals w0 w hw (hR k (hp.mem_iff.2 hk)))
  | succ n ih =>
    intro l r vals w0 hr hp hcl hb hR w hw
    have hmem : ∀ x, x ∈ σ ↔ x ∈ l ∨ x ∈ r := fun x => by rw [← hp.mem_iff, List.mem_append]
    have hndlr : (l ++ r).Nodup := hp.nodup_iff.2 hnd
    have hlr : ∀ x ∈ r, x ∉ l := fun x hx hl => by
      rw [List.nodup_append] at hndlr
      exact hndlr.2.2 x hl x hx rfl
    have hlistedσ : ∀ x ∈ σ, (setAll l listed0).getD x false = true → x ∈ l := fun x hx h => by
      rw [setAll_get l listed0 x false (by rw [hsz]; exact (hun x hx).1), hunF x hx] at h
      simpa using h
    obtain ⟨x0, hx0⟩ : ∃ x, x ∈ r := by
      cases r with
      | nil => simp at hr
      | cons x r => exact ⟨x, by simp⟩
    constructor
    · obtain ⟨s1, i, s2, hse, h1, h2⟩ := first_not σ l ⟨x0, (hmem x0).2 (.inr hx0), hlr x0 hx0⟩
      have hi := top_spec σ listed0 htop s1 i s2 hse
      have hiσ : i ∈ σ := by rw [hse]; simp
      obtain ⟨g0, o, ho, hall'⟩ := mem_ready.1 hi
      have : i ∈ Region.ready .any ops (setAll l listed0) := by
        refine mem_ready.2 ⟨?_, o, ho, fun e he hbe => ?_⟩
        · rw [setAll_get l listed0 i true (by rw [hsz]; exact (hun i hiσ).1), (hun i hiσ).2]
          simpa using h2
        · have h3 := hall' e he hbe
          rcases Nat.lt_or_ge e.on listed0.size with h' | h'
          · rw [setAll_get _ _ _ _ h'] at h3 ⊢
            simp only [Bool.or_eq_true, decide_eq_true_eq] at h3 ⊢
            rcases h3 with h3 | h3
            · exact .inl h3
            · exact .inr (h1 _ h3)
          · rw [Array.getD_eq_getD_getElem?, Array.getElem?_eq_none (by rw [setAll_size]; exact h')] at h3
            simp at h3
      intro h0
      rw [h0] at this
      cases this
    · intro j hj
      obtain ⟨hjun, oj, hoj, hjall⟩ := mem_ready.1 hj
      have hlt := (Array.getElem?_eq_some_iff.1 hoj).1
      have hreach : ∀ k, dep .any ops j k = true → (setAll l listed0).getD k false = true := fun k hk => reach_listed hcl _ j oj hoj hjall hk
      have htj : τ.contains j = false := by
        cases h : τ.contains j with
        | false => rfl
        | true =>
          exfalso
          have hx0σ := (hmem x0).2 (.inr hx0)
          have h1 := waits_spec (hall x0 hx0σ).1.2 j oj hoj h
          have h2 := hreach x0 h1
          exact hlr x0 hx0 (hlistedσ x0 hx0σ h2)
      have hjσ : j ∈ σ := by
        rcases hcov j hlt with (h | h) | h
        · exfalso
          have hlt' : j < listed0.size := by rw [hsz]; exact hlt
          rw [setAll_get l listed0 j true hlt'] at hjun
          simp [hlt'] at hjun h
          rw [h] at hjun
          simp at hjun
        · simpa using h
        · rw [htj] at h; cases h
      have hjl : j ∉ l := fun h => by
        rw [setAll_get l listed0 j true (by rw [hsz]; exact hlt)] at hjun
        simp [h] at hjun
      have hjr : j ∈ r := ((hmem j).1 hjσ).resolve_left hjl
      refine ⟨htj, ?_⟩
      have hselj := fun cs d => Region.noSelect_spec hs j oj cs d hoj
      have hdeps : ∀ k ∈ σ, dep .any ops j k = true → k ∈ l := fun k hk hd => hlistedσ k hk (hreach k hd)
      have h1 := hsp j hjσ vals w (hb.trans hw) (fun k hk hd => hst k hk vals w0 w hw (hR k (hdeps k hk hd)))
      -- to the state as it is
      have h2 : lVal P ops j (fun v w' => R j (upd vals j v) w') (putAll ops l vals a) w := by
        have hpl : ((l.filter fun k => dep .any ops j k) ++ (l.filter fun k => !dep .any ops j k)).Perm l := List.filter_append_perm _ l
        have hndl : l.Nodup := (List.nodup_append.1 hndlr).1
        have hpd : (l.filter fun k => dep .any ops j k).Perm (σ.filter fun k => dep .any ops j k) := by
          refine (List.perm_ext_iff_of_nodup (hndl.filter _) (hnd.filter _)).2 fun x => ?_
          simp only [List.mem_filter]
          constructor
          · rintro ⟨h1, h2⟩; exact ⟨(hmem x).2 (.inl h1), h2⟩
          · rintro ⟨h1, h2⟩; exact ⟨hdeps x h1 h2, h2⟩
        rw [← putAll_perm hpl (fun x hx y hy => hdst x ((hmem x).2 (.inl (hpl.mem_iff.1 hx))) y ((hmem y).2 (.inl (hpl.mem_iff.1 hy)))), putAll_append]
        refine lVal_putAll hoj hselj _ _ (fun k hk t ht => ?_) ?_
        · simp only [List.mem_filter, Bool.not_eq_true'] at hk
          have hkσ := (hmem k).2 (.inl hk.1)
          have hkj : k ≠ j := fun e => hjl (e ▸ hk.1)
          exact blind_spec (hall j hjσ).1.1.1 hoj k hkσ hkj hk.2 t ht
        · rw [putAll_perm hpd (fun x hx y hy => hdst x ((hmem x).2 (.inl (List.mem_filter.1 hx).1)) y ((hmem y).2 (.inl (List.mem_filter.1 hy).1)))]
          exact h1
      refine lOp_of_lVal h2 fun v w' hl' hRj => ?_
      have hrp : (j :: r.erase j).Perm r := (List.perm_cons_erase hjr).symm
      have h3 := ih (l ++ [j]) (r.erase j) (upd vals j v) w' (by rw [List.length_erase_of_mem hjr]; omega) (by
          rw [List.append_assoc, List.singleton_append]
          exact ((List.perm_append_left_iff l).2 hrp).trans hp) (by
          have : setAll (l ++ [j]) listed0 = (setAll l listed0).setIfInBounds j true := by simp [setAll]
          rw [this]; exact hcl.add hj) ((hb.trans hw).trans hl') (fun k hk => by
          rcases List.mem_append.1 hk with hk | hk
          · have hkσ := (hmem k).2 (.inl hk)
            have hkj : k ≠ j := fun e => hjl (e ▸ hk)
            refine hlo k hkσ j hjσ (Ne.symm hkj) ?_ vals v w' (hst k hkσ vals w0 w' (hw.trans hl') (hR k hk))
            -- what is done waits for nothing that isn't
            cases hd : dep .any ops k j with
            | false => rfl
            | true =>
              exfalso
              cases hok : ops[k]? with
              | none => have := (hun k hkσ).1; rw [Array.getElem?_eq_none_iff] at hok; omega
              | some ok =>
                have hkl : (setAll l listed0).getD k false = true := by
                  rw [setAll_get l listed0 k false (by rw [hsz]; exact (hun k hkσ).1)]; simp [hk]
                have := reach_listed hcl _ k ok hok (fun e he hbe => hcl k ok hok hkl e he hbe) hd
                exact hjl (hlistedσ j hjσ this)
          · have : k = j := by simpa using hk
            subst this; exact hRj)
      have e1 : setAll (l ++ [j]) listed0 = (setAll l listed0).setIfInBounds j true := by simp [setAll]
      have e2 : putAll ops (l ++ [j]) (upd vals j v) a = (putAll ops l vals a).put (dstOf ops j) v := by
        rw [putAll_append, putAll_upd l a hjl]; simp [putAll, upd_same]
      rw [e1, e2] at h3
      exact h3
/-- mild operations first, then a bag (σ), then the last ones (τ) -/
def wpT (P : Program) (ops : Array Oper) (Q : Exit → Act → World → Prop) (τ σ : List Nat) : List Nat → Act → World → Prop
  | [], a, b => bagP P ops Q τ σ a b
  | i :: μ, a, b => ∃ o, ops[i]? = some o ∧ if Region.wanted o (yielded ops a.tmps) then Oper.mild P o a b (fun a' => wpT P ops Q τ σ μ a' b) else wpT P ops Q τ σ μ (a.put o.dst undef) b
def treeB (ops : Array Oper) (τ σ : List Nat) : List Nat → Array Bool → Bool
  | [], listed => bagB ops τ σ listed
  | i :: μ, listed => (Region.ready .any ops listed).contains i && Region.free .any ops listed i && !τ.contains i && waitsB .any ops τ i && treeB ops τ σ μ (listed.setIfInBounds i true)
theorem wpX_of_wpT {τ σ : List Nat} (hs : Region.noSelect ops = true) : ∀ (μ : List Nat) (listed : Array Bool) (a : Act) (b : World), Closed .any ops listed → treeB ops τ σ μ listed = true → wpT P ops Q τ σ μ a b →
    wpX P .any ops (fun i => τ.contains i) (fun listed a w => wpAny P .any ops Q τ.length listed a w) (μ.length + σ.length) listed a b
  | [], listed, a, b, hcl, hB, h => by
    obtain ⟨R, hst, hlo, hsp, hfi⟩ := h
    rw [List.length_nil, Nat.zero_add]
    exact wpX_bag hs hB hcl hst hlo hsp hfi σ.length [] σ (fun _ => undef) b rfl (List.Perm.refl _) hcl (Later.refl _) (by simp)
  | i :: μ, listed, a, b, hcl, hB, h => by
    simp only [treeB, Bool.and_eq_true, Bool.not_eq_true'] at hB
    have hri : i ∈ Region.ready .any ops listed := by simpa using hB.1.1.1.1
    obtain ⟨o, ho, h⟩ := h
    rw [List.length_cons, Nat.add_right_comm]
    by_cases hw : Region.wanted o (yielded ops a.tmps) = true
    · simp only [hw, if_true] at h
      obtain ⟨v, hv, hk⟩ := h
      exact wpX_first ho hB.1.1.2 (Region.noSelect_spec hs) (waits_spec hB.1.2) _ listed a b hcl (Region.free_spec ho hB.1.1.1.2) hri (.inl ⟨hw, hv⟩) (wpX_of_wpT hs μ _ _ _ (hcl.add hri) hB.2 hk)
    · simp only [hw] at h
      exact wpX_first ho hB.1.1.2 (Region.noSelect_spec hs) (waits_spec hB.1.2) _ listed a b hcl (Region.free_spec ho hB.1.1.1.2) hri (.inr ⟨by simpa using hw, rfl⟩) (wpX_of_wpT hs μ _ _ _ (hcl.add hri) hB.2 h)
/-- A REGION THAT DRAWS ITS ORDER: mild operations (μ), a bag (σ), the last ones (τ). -/
theorem wp_region_tree {id : Nat} {a : Act} {w : World} {l : List Oper} (μ σ τ : List Nat) (hm : P.follows .mixedOrders = true) (hs : Region.noSelect l.toArray = true) (hn : (μ.length + σ.length + τ.length == l.length) = true)
    (hB : treeB l.toArray τ σ μ (Array.replicate l.length false) = true)
    (h : wpT P l.toArray Q τ σ μ a w.drew) : (Code.region id l.toArray true).wp P Q a w := by
  refine wp_region_any hm ?_
  have h1 := wpX_of_wpT hs μ _ a _ (Closed.start _) hB h
  have h2 := wpAny_of_wpX (Q := Q) _ _ _ _ h1
  have e2 : l.length = μ.length + σ.length + τ.length := by simp at hn; exact hn.symm
  have e : l.toArray.size = μ.length + σ.length + τ.length := by simp [e2]
  rw [e]
  rw [e2] at h2
  exact h2
theorem wpT_mild {τ σ : List Nat} {i : Nat} {o : Oper} {μ : List Nat} {a : Act} {b : World} (ho : ops[i]? = some o)
    (h : ∀ K : Act → Prop, (∀ a', wpT P ops Q τ σ μ a' b → K a') → if Region.wanted o (yielded ops a.tmps) then Oper.mildG P o a b K else K (a.put o.dst undef)) : wpT P ops Q τ σ (i :: μ) a b := by
  refine ⟨o, ho, ?_⟩
  have := h _ (fun _ h => h)
  split
  · rename_i hw; rw [if_pos hw] at this; exact Oper.mild_of_mildG this
  · rename_i hw; rw [if_neg hw] at this; exact this
theorem wpT_bag {τ σ : List Nat} {a : Act} {b : World} (ds : Nat → List Nat) (R : Nat → (Nat → Value) → World → Prop) (hd : (σ.all fun i => (σ.filter fun k => dep .any ops i k) == ds i) = true)
    (h1 : ∀ i ∈ σ, ∀ vals w w', Later w w' → R i vals w → R i vals w')
    (h2 : ∀ i ∈ σ, ∀ k ∈ σ, k ≠ i → k ∉ ds i → ∀ vals v w, R i vals w → R i (upd vals k v) w)
    (h3 : ∀ i ∈ σ, ∀ vals w, Later b w → (∀ k ∈ ds i, R k vals w) → lVal P ops i (fun v w' => R i (upd vals i v) w') (putAll ops (ds i) vals a) w)
    (h4 : ∀ vals w, Later b w → (∀ k ∈ σ, R k vals w) → wpL P ops Q τ (putAll ops σ vals a) w) : wpT P ops Q τ σ [] a b := by
  simp only [List.all_eq_true, beq_iff_eq] at hd
  have hm : ∀ i ∈ σ, ∀ k, k ∈ ds i ↔ k ∈ σ ∧ dep .any ops i k = true := fun i hi k => by rw [← hd i hi, List.mem_filter]
  refine ⟨R, h1, fun i hi k hk hne hdep => h2 i hi k hk hne (fun h => by rw [((hm i hi k).1 h).2] at hdep; cases hdep), fun i hi vals w hw hR => ?_, h4⟩
  rw [hd i hi]
  exact h3 i hi vals w hw (fun k hk => hR k ((hm i hi k).1 hk).1 ((hm i hi k).1 hk).2)
theorem lVal_step {i : Nat} {o : Oper} {R : Value → World → Prop} {a : Act} {w : World} (ho : ops[i]? = some o)
    (h : ∀ K : Value → World → Prop, (∀ v w', R v w' → K v w') → if Region.wanted o (yielded ops a.tmps) then vUpon P w K ((execOp a.eval o).run P w) else K undef w) : lVal P ops i R a w := by
  unfold lVal
  simp only [ho]
  exact h _ (fun _ _ h => h)
theorem wpT_done {τ : List Nat} {a : Act} {b : World} (h : ∀ w, Later b w → wpL P ops Q τ a w) : wpT P ops Q τ [] [] a b :=
  ⟨fun _ _ _ => True, fun _ _ _ _ _ _ h => h, fun _ _ _ _ _ _ _ _ _ h => h, (fun i hi => by cases hi), fun vals w hw _ => h w hw⟩
theorem wpL_cons {τ : List Nat} {i : Nat} {o : Oper} {a : Act} {w : World} (ho : ops[i]? = some o)
    (h : ∀ K : Act → World → Prop, (∀ a' w', wpL P ops Q τ a' w' → K a' w') → if Region.wanted o (yielded ops a.tmps) = true then Go.Oper.wp P o a w K Q else K (a.put o.dst undef) w) : wpL P ops Q (i :: τ) a w :=
  wpOp_step ho h
theorem wpL_nil {a : Act} {w : World} (h : Q .normal a w) : wpL P ops Q [] a w := h
end
attribute [go_sem] vUpon
end Go.Proofs.YtfakboehmcimpaaGreat

namespace Go.Proofs.YtfakboehmcimpaaGreat
open Go.ChangeShapes Go.WideShapes Go.ChangeAt Go.RowKit
set_option linter.unusedVariables false
set_option maxRecDepth 4000
set_option linter.unusedSimpArgs false
/-! Laws of single operations, for bags and for last operations. -/
/-- 'append([]T{}, x...)': one's own -/
theorem run_append_lit {P : Program} {w : World} {T e ty : TypeId} {sz bytes : Nat} {z : Value} (he : Elem P e sz bytes z) (ht : P.underlying T = some (.slice e)) (hz : z.cells.size = sz) (hsz : 0 < sz) (B : Nat) (g : Nat) (hown : w.ownsRow B e sz (.slice (some ⟨g, 0, none⟩) 0 0) 0 []) (hB : B ≤ w.heap.size)
    (u : Value) (m : Nat) (ys : List Value) (hu : Rw sz w u m ys) (h1 : ∀ q ∈ ys, q.oneCell' = true) (hbytes : m * bytes ≤ 140737488355328) :
    ∃ v' w', (Builtin.append_ #[T, T] ty #[.slice (some ⟨g, 0, none⟩) 0 0, u]).run P w = .ok v' w' ∧ w'.ownsRow B e sz v' m ys ∧ Later w w' := by
  obtain ⟨i0, hi, hz0, hz1, hz2⟩ := he
  have hu' := hu
  obtain ⟨hl, hm, au, c, rfl, hc, hcase⟩ := hu
  by_cases h0 : m = 0
  · subst h0
    have hy : ys = [] := List.eq_nil_of_length_eq_zero (by rw [hl]; simp)
    subst hy
    refine ⟨.slice (some ⟨g, 0, none⟩) 0 0, w, ?_, hown, Later.refl w⟩
    cases au with
    | none => simp [Builtin.append_, run_underlying ht, sizeOf, typeInfo, hi, Builtin.lenOf, Builtin.firstCells, storeCells]
    | some au =>
      have hfc := run_firstCells_some (P := P) w i0.size 0 au 0 c [] (by simp) (by simp)
      simp [Builtin.append_, run_underlying ht, sizeOf, typeInfo, hi, Builtin.lenOf, hfc, storeCells]
  · obtain ⟨b, off, rfl, _⟩ := hu'.lies? (by omega)
    obtain ⟨v', w', hrun, ho, hg⟩ := run_append_arg_grows (P := P) w T ty e i0 z sz bytes ht hi hz0 hz1 hz2 hz hsz ⟨g, 0, none⟩ 0 0 [] (by simp) (by simp) ⟨b, off, none⟩ m c ys hl hu'.lies (by omega) (by omega) (by rw [Nat.zero_add]; exact hbytes)
    refine ⟨v', w', hrun, ?_, Below.grown0 hg⟩
    have := owns_rebase ho hB
    simpa using this
theorem lVal_mono {P : Program} {ops : Array Oper} {i : Nat} {R R' : Value → World → Prop} {a : Act} {w : World} (hR : ∀ v w', Later w w' → R v w' → R' v w') (h : lVal P ops i R a w) : lVal P ops i R' a w := by
  unfold lVal at *
  split
  · rename_i ho; simp [ho] at h
  · rename_i o ho
    simp only [ho] at h
    split
    · rename_i hw
      simp only [hw, if_true] at h
      generalize (execOp a.eval o).run P w = r at *
      cases r with
      | ok n w' =>
        cases n <;> simp only [vUpon] at h ⊢
        case value u => exact ⟨h.1, hR _ _ h.1 h.2⟩
        case skip => exact ⟨h.1, hR _ _ h.1 h.2⟩
        case enter f args => exact ⟨h.1, h.2.mono fun e w'' ⟨u, he, hl, hk⟩ => ⟨u, he, hl, hR _ _ hl hk⟩⟩
      | halt x w' => simp only [vUpon] at h
    · rename_i hw
      simp only [hw] at h
      exact hR _ _ (Later.refl _) h
theorem lVal_of_run {P : Program} {ops : Array Oper} {i : Nat} {o : Oper} {R : Value → World → Prop} {a : Act} {w : World} (ho : ops[i]? = some o) (hgd : o.guard = none) (v : Value) (w' : World) (hrun : (execOp a.eval o).run P w = .ok (.value v) w') (hl : Later w w') (h : R v w') : lVal P ops i R a w := by
  unfold lVal
  simp only [ho]
  rw [if_pos (by simp [Region.wanted, hgd]), hrun]
  exact ⟨hl, h⟩
/-- in a bag: 'append([]T{}, x...)' -/
theorem lVal_append_lit {P : Program} {ops : Array Oper} {i : Nat} {o : Oper} {R : Value → World → Prop} {a : Act} {w : World} {T e : TypeId} {sz bytes : Nat} {z : Value} (he : Elem P e sz bytes z) (ht : P.underlying T = some (.slice e)) (hz : z.cells.size = sz) (hsz : 0 < sz)
    (hoi : ops[i]? = some o) (hgd : o.guard = none) (l x : Operand) (ho : o.op = .call { callee := .builtin .append, args := #[l, x], argTypes := #[T, T] }) (B g : Nat) (hl : a.eval l = .slice (some ⟨g, 0, none⟩) 0 0) (hown : w.ownsRow B e sz (.slice (some ⟨g, 0, none⟩) 0 0) 0 []) (hB : B ≤ w.heap.size)
    (u : Value) (m : Nat) (ys : List Value) (hx : a.eval x = u) (hu : Rw sz w u m ys) (h1 : ∀ q ∈ ys, q.oneCell' = true) (hbytes : m * bytes ≤ 140737488355328)
    (h : ∀ v' w', w'.ownsRow B e sz v' m ys → R v' w') : lVal P ops i R a w := by
  obtain ⟨v', w', hrun, hr, hl'⟩ := run_append_lit (P := P) (ty := o.type) he ht hz hsz B g hown hB u m ys hu h1 hbytes
  refine lVal_of_run hoi hgd v' w' ?_ hl' (h v' w' hr)
  simp [execOp, ho, resolve, invoke, builtin, hl, hx, hrun, Result.andThen]
end Go.Proofs.YtfakboehmcimpaaGreat
