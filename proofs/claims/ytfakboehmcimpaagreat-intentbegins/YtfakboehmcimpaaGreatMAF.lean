import Derived.Test.YtfakboehmcimpaaGreatMAD
namespace Go.Proofs.YtfakboehmcimpaaGreat
open Go Go.RowKit
set_option linter.unusedVariables false
set_option maxRecDepth 4000
set_option linter.unusedSimpArgs false
/-! A bag that holds stores, too: whatever of a region is left behind its mild operations, in whatever order it comes up. -/
section
variable {P : Program} {ops : Array Oper} {md : Region.Mode} {Q : Exit → Act → World → Prop}
/-- mild operations ahead; a store (tl) waits for all of them -/
def wpZ (P : Program) (md : Region.Mode) (ops : Array Oper) (tl : Nat → Bool) (Q : Exit → Act → World → Prop) : Nat → Array Bool → Act → World → Prop
  | 0, listed, a, b => Region.ready md ops listed = [] ∧ ∀ w, Later b w → Q .normal a w
  | n + 1, listed, a, b => ∀ w, Later b w → Region.ready md ops listed ≠ [] ∧ ∀ i ∈ Region.ready md ops listed,
      (tl i = false → lOp P ops i (fun a' w' => wpZ P md ops tl Q n (listed.setIfInBounds i true) a' w') a w) ∧
      (tl i = true → wpOp P ops Q i (fun a' w' => wpAny P md ops Q n (listed.setIfInBounds i true) a' w') a w)
theorem wpZ_base {tl : Nat → Bool} {b c : World} (hl : Later b c) : ∀ (n : Nat) (listed : Array Bool) (a : Act), wpZ P md ops tl Q n listed a b → wpZ P md ops tl Q n listed a c
  | 0, _, _, h => ⟨h.1, fun w hw => h.2 w (hl.trans hw)⟩
  | _ + 1, _, _, h => fun w hw => h w (hl.trans hw)
theorem wpAny_of_wpZ {tl : Nat → Bool} : ∀ (n : Nat) (listed : Array Bool) (a : Act) (w : World), wpZ P md ops tl Q n listed a w → wpAny P md ops Q n listed a w
  | 0, _, _, w, h => ⟨h.1, h.2 w (Later.refl _)⟩
  | n + 1, listed, a, w, h => by
    have h1 := h w (Later.refl _)
    refine ⟨fun h0 => absurd h0 h1.1, fun i hi => ?_⟩
    cases ht : tl i with
    | false => exact wpOp_mono (fun a' w' h' => wpAny_of_wpZ n _ a' w' h') (wpOp_of_lOp ((h1.2 i hi).1 ht))
    | true => exact (h1.2 i hi).2 ht
theorem wpZ_first {tl : Nat → Bool} {i : Nat} {oi : Oper} {v : Value} (hi : ops[i]? = some oi) (hti : tl i = false) (hsel : ∀ (j : Nat) (o : Oper) cs d, ops[j]? = some o → o.op ≠ .select cs d)
    (hlast : ∀ j oj, ops[j]? = some oj → tl j = true → reachB md ops ops.size j i = true) :
    ∀ (n : Nat) (listed : Array Bool) (a : Act) (b : World), Closed md ops listed →
      (∀ j oj, ops[j]? = some oj → j ≠ i → listed.getD j true = false → (∀ e ∈ oj.after, Region.binds md e = true → e.on ≠ i) → oi.apart ops oj = true) →
      i ∈ Region.ready md ops listed → Gives P ops b oi v a →
      wpZ P md ops tl Q n (listed.setIfInBounds i true) (a.put oi.dst v) b → wpZ P md ops tl Q (n + 1) listed a b := by
  have hnt : ∀ (listed : Array Bool), Closed md ops listed → i ∈ Region.ready md ops listed → ∀ j ∈ Region.ready md ops listed, tl j = false := by
    intro listed hcl hr j hj
    cases htj : tl j with
    | false => rfl
    | true =>
      exfalso
      obtain ⟨_, oj, hoj, hall⟩ := mem_ready.1 hj
      have h1 := reach_listed hcl _ j oj hoj hall (hlast j oj hoj htj)
      have h0 := (mem_ready.1 hr).1
      rcases Nat.lt_or_ge i listed.size with h' | h'
      · simp [h'] at h0 h1; rw [h0] at h1; cases h1
      · simp [Array.getElem?_eq_none h'] at h1
  intro n
  induction n with
  | zero =>
    intro listed a b hcl _ hr hy H w hw
    refine ⟨fun h => (by rw [h] at hr; cases hr), fun j hj => ⟨fun _ => ?_, fun ht => by rw [hnt listed hcl hr j hj] at ht; cases ht⟩⟩
    by_cases hji : j = i
    · subst hji; exact hy.lOp hi hw fun w' hw' => wpZ_base (hw.trans hw') 0 _ _ H
    · exfalso
      have := ready_mono hj hji
      rw [H.1] at this
      cases this
  | succ n ih =>
    intro listed a b hcl hfree hr hy H w hw
    refine ⟨fun h => (by rw [h] at hr; cases hr), fun j hj => ⟨fun htj => ?_, fun ht => by rw [hnt listed hcl hr j hj] at ht; cases ht⟩⟩
    by_cases hji : j = i
    · subst hji; exact hy.lOp hi hw fun w' hw' => wpZ_base (hw.trans hw') (n + 1) _ _ H
    · have h1 := ((H w hw).2 j (ready_mono hj hji)).1 htj
      obtain ⟨hjun, oj, hoj, hall⟩ := mem_ready.1 hj
      have hnot : ∀ e ∈ oj.after, Region.binds md e = true → e.on ≠ i := fun e he hb heq => by
        have h1 := hall e he hb
        have h0 := (mem_ready.1 hr).1
        rw [heq] at h1
        rcases Nat.lt_or_ge i listed.size with h' | h'
        · simp [h'] at h0 h1; rw [h0] at h1; cases h1
        · simp [Array.getElem?_eq_none h'] at h1
      have h2 := lOp_put hoj (hfree j oj hoj hji hjun hnot) (fun cs d => hsel i oi cs d hi) (fun cs d => hsel j oj cs d hoj) hy h1
      have hfree' : ∀ k ok, ops[k]? = some ok → k ≠ i → (listed.setIfInBounds j true).getD k true = false →
          (∀ e ∈ ok.after, Region.binds md e = true → e.on ≠ i) → oi.apart ops ok = true := fun k ok hk hki hun hno => by
        refine hfree k ok hk hki ?_ hno
        by_cases hjk : j = k
        · subst hjk; exact hjun
        · rw [getD_set_ne true hjk] at hun; exact hun
      refine lOp_mono (fun a' w' hl h3 => ih (listed.setIfInBounds j true) a' w' (hcl.add hj) hfree' (ready_mono hr (Ne.symm hji)) (h3.1.later (hw.trans hl)) ?_) h2
      rw [Array.setIfInBounds_comm _ _ hji]
      exact h3.2
/-- a store, or whatever gives a value at once -/
def sUpon (R : Value → World → Prop) : Result Next → Prop
  | .ok (.value u) w' => R u w'
  | .ok .skip w' => R undef w'
  | _ => False
def sVal (P : Program) (ops : Array Oper) (i : Nat) (R : Value → World → Prop) (a : Act) (w : World) : Prop :=
  match ops[i]? with
  | none => False
  | some o => if Region.wanted o (yielded ops a.tmps) then sUpon R ((execOp a.eval o).run P w) else R undef w
theorem wpOp_of_sVal {i : Nat} {R : Value → World → Prop} {K : Act → World → Prop} {a : Act} {w : World} (h : sVal P ops i R a w) (hK : ∀ v w', R v w' → K (a.put (dstOf ops i) v) w') : wpOp P ops Q i K a w := by
  unfold sVal at h
  unfold dstOf at hK
  cases ho : ops[i]? with
  | none => simp [ho] at h
  | some o =>
    simp only [ho, Option.bind_some] at h hK
    refine wpOp_step ho fun K' hK' => ?_
    split
    · rename_i hw
      simp only [hw, if_true] at h
      unfold Go.Oper.wp
      generalize (execOp a.eval o).run P w = r at *
      cases r with
      | ok n w' =>
        cases n <;> simp only [sUpon] at h <;> simp only [Go.Oper.upon]
        case value u => exact hK' _ _ (hK _ _ h)
        case skip => exact hK' _ _ (hK _ _ h)
      | halt x w' => simp only [sUpon] at h
    · rename_i hw
      simp only [hw] at h
      exact hK' _ _ (hK _ _ h)
theorem sVal_put {j : Nat} {oj : Oper} {R : Value → World → Prop} {a : Act} {w : World} {d : Option Tmp} {v : Value} (hj : ops[j]? = some oj) (hs : ∀ cs d, oj.op ≠ .select cs d) (hn : ∀ t, d = some t → t ∉ oj.looksAt ops) (h : sVal P ops j R a w) : sVal P ops j R (a.put d v) w := by
  unfold sVal at *
  simp only [hj] at *
  rw [wanted_put oj a d v hn, execOp_put oj hs a d v hn]
  exact h
theorem sVal_putAll {j : Nat} {oj : Oper} {R : Value → World → Prop} {w : World} {vals : Nat → Value} (hj : ops[j]? = some oj) (hs : ∀ cs d, oj.op ≠ .select cs d) : ∀ (l : List Nat) (a : Act), (∀ k ∈ l, ∀ t, dstOf ops k = some t → t ∉ oj.looksAt ops) → sVal P ops j R a w → sVal P ops j R (putAll ops l vals a) w
  | [], _, _, h => h
  | k :: l, a, hn, h => sVal_putAll hj hs l (a.put (dstOf ops k) (vals k)) (fun x hx => hn x (by simp [hx])) (sVal_put hj hs (hn k (by simp)) h)
def bag2B (ops : Array Oper) (σ : List Nat) (listed : Array Bool) : Bool :=
  (listed.size == ops.size) && topB .any ops σ listed && dstsB ops σ && σ.all (fun i => blindB ops σ i && !listed.getD i true) && decide σ.Nodup &&
    (List.range ops.size).all (fun x => listed.getD x false || σ.contains x)
/-- what is asked of a bag with stores (st) -/
structure Bag2 (P : Program) (ops : Array Oper) (Q : Exit → Act → World → Prop) (st σ : List Nat) (a : Act) (b : World) (L : World → Prop) (R : Nat → (Nat → Value) → World → Prop) : Prop where
  here : L b
  near : ∀ w w', Later w w' → L w → L w'
  stays : ∀ i ∈ σ, ∀ vals w w', Later w w' → R i vals w → R i vals w'
  alone : ∀ i ∈ σ, ∀ k ∈ σ, k ≠ i → dep .any ops i k = false → ∀ vals v w, R i vals w → R i (upd vals k v) w
  gives : ∀ i ∈ σ, i ∉ st → ∀ vals w, L w → ((∀ s ∈ st, dep .any ops s i = true) → Later b w) → (∀ k ∈ σ, dep .any ops i k = true → R k vals w) → lVal P ops i (fun v w' => R i (upd vals i v) w') (putAll ops (σ.filter fun k => dep .any ops i k) vals a) w
  stores : ∀ i ∈ σ, i ∈ st → ∀ vals w, L w → ((∀ s ∈ st, s = i ∨ dep .any ops s i = true) → Later b w) → (∀ k ∈ σ, dep .any ops i k = true → R k vals w) → sVal P ops i (fun v w' => L w' ∧ R i (upd vals i v) w' ∧ ∀ k ∈ σ, dep .any ops i k = true → R k vals w') (putAll ops (σ.filter fun k => dep .any ops i k) vals a) w
  still : ∀ i ∈ σ, i ∈ st → ∀ k ∈ σ, k ≠ i → dep .any ops i k = false → dep .any ops k i = false → ∀ vals w w', R k vals w → R k vals w'
  all : ∀ vals w, L w → (∀ k ∈ σ, R k vals w) → Q .normal (putAll ops σ vals a) w
/-- what is known where l is done, r is not -/
theorem bag2_step {st σ : List Nat} {listed0 : Array Bool} {a : Act} {b : World} {L : World → Prop} {R : Nat → (Nat → Value) → World → Prop} (hs : Region.noSelect ops = true) (hB : bag2B ops σ listed0 = true) (G : Bag2 P ops Q st σ a b L R)
    {l r : List Nat} {vals : Nat → Value} {w : World} (hp : (l ++ r).Perm σ) (hcl : Closed .any ops (setAll l listed0)) (hL : L w) (hb : (∀ s ∈ st, s ∉ l) → Later b w) (hR : ∀ k ∈ l, R k vals w) :
    (r = [] → Region.ready .any ops (setAll l listed0) = [] ∧ putAll ops l vals a = putAll ops σ vals a ∧ ∀ k ∈ σ, R k vals w) ∧ (r ≠ [] → Region.ready .any ops (setAll l listed0) ≠ []) ∧ ∀ j ∈ Region.ready .any ops (setAll l listed0), j ∈ σ ∧ j ∉ l ∧ j ∈ r ∧
      (j ∉ st → lVal P ops j (fun v w' => R j (upd vals j v) w') (putAll ops l vals a) w) ∧
      (j ∈ st → sVal P ops j (fun v w' => L w' ∧ R j (upd vals j v) w' ∧ ∀ k ∈ σ, dep .any ops j k = true → R k vals w') (putAll ops l vals a) w) ∧
      ∀ k ∈ l, k ≠ j ∧ k ∈ σ ∧ dep .any ops k j = false := by
  simp only [bag2B, Bool.and_eq_true, beq_iff_eq, decide_eq_true_eq, List.all_eq_true, Bool.not_eq_true', List.mem_range, Bool.or_eq_true] at hB
  obtain ⟨⟨⟨⟨⟨hsz, htop⟩, hds⟩, hall⟩, hnd⟩, hcov⟩ := hB
  have hdst := dsts_spec σ hds
  have hun : ∀ i ∈ σ, i < ops.size ∧ listed0.getD i true = false := fun i hi => by
    have h0 := (hall i hi).2
    refine ⟨?_, h0⟩
    rcases Nat.lt_or_ge i listed0.size with h' | h'
    · rw [← hsz]; exact h'
    · simp [Array.getElem?_eq_none h'] at h0
  have hunF : ∀ i ∈ σ, listed0.getD i false = false := fun i hi => by
    have h1 := hun i hi
    have : i < listed0.size := by rw [hsz]; exact h1.1
    have h2 := h1.2
    simp [this] at h2 ⊢
    exact h2
  have hmem : ∀ x, x ∈ σ ↔ x ∈ l ∨ x ∈ r := fun x => by rw [← hp.mem_iff, List.mem_append]
  have hndlr : (l ++ r).Nodup := hp.nodup_iff.2 hnd
  have hlr : ∀ x ∈ r, x ∉ l := fun x hx hl => by
    rw [List.nodup_append] at hndlr
    exact hndlr.2.2 x hl x hx rfl
  have hlistedσ : ∀ x ∈ σ, (setAll l listed0).getD x false = true → x ∈ l := fun x hx h => by
    rw [setAll_get l listed0 x false (by rw [hsz]; exact (hun x hx).1), hunF x hx] at h
    simpa using h
  have hkey : ∀ j ∈ Region.ready .any ops (setAll l listed0), j ∈ σ ∧ j ∉ l := by
    intro j hj
    obtain ⟨hjun, oj, hoj, hjall⟩ := mem_ready.1 hj
    have hlt := (Array.getElem?_eq_some_iff.1 hoj).1
    have hlt' : j < listed0.size := by rw [hsz]; exact hlt
    have hjl : j ∉ l := fun h => by
      rw [setAll_get l listed0 j true hlt'] at hjun
      simp [h] at hjun
    refine ⟨?_, hjl⟩
    rcases hcov j hlt with h | h
    · exfalso
      rw [setAll_get l listed0 j true hlt'] at hjun
      simp [hlt'] at hjun h
      rw [h] at hjun
      simp at hjun
    · simpa using h
  refine ⟨fun hr0 => ?_, fun hr0 => ?_, fun j hj => ?_⟩
  · subst hr0
    rw [List.append_nil] at hp
    refine ⟨?_, putAll_perm hp (fun x hx y hy => hdst x (hp.mem_iff.1 hx) y (hp.mem_iff.1 hy)) vals a, fun k hk => hR k (hp.mem_iff.2 hk)⟩
    rw [List.eq_nil_iff_forall_not_mem]
    intro j hj
    have := hkey j hj
    exact this.2 (hp.mem_iff.2 this.1)
  · obtain ⟨x0, hx0⟩ : ∃ x, x ∈ r := by
      cases r with
      | nil => exact absurd rfl hr0
      | cons x r => exact ⟨x, by simp⟩
    obtain ⟨s1, i, s2, hse, h1, h2⟩ := first_not σ l ⟨x0, (hmem x0).2 (.inr hx0), hlr x0 hx0⟩
    have hi := top_spec σ listed0 htop s1 i s2 hse
    have hiσ : i ∈ σ := by rw [hse]; simp
    obtain ⟨g0, o, ho, hall'⟩ := mem_ready.1 hi
    have : i ∈ Region.ready .any ops (setAll l listed0) := by
      refine mem_ready.2 ⟨?_, o, ho, fun e he hbe => ?_⟩
      · rw [setAll_get l listed0 i true (by rw [hsz]; exact (hun i hiσ).1), (hun i hiσ).2]
        simpa using h2
      · have h3 := hall' e he hbe
        rcases Nat.lt_or_ge e.on listed0.size with h' | h'
        · rw [setAll_get _ _ _ _ h'] at h3 ⊢
          simp only [Bool.or_eq_true, decide_eq_true_eq] at h3 ⊢
          rcases h3 with h3 | h3
          · exact .inl h3
          · exact .inr (h1 _ h3)
        · rw [Array.getD_eq_getD_getElem?, Array.getElem?_eq_none (by rw [setAll_size]; exact h')] at h3
          simp at h3
    intro h0
    rw [h0] at this
    cases this
  · obtain ⟨hjσ, hjl⟩ := hkey j hj
    obtain ⟨hjun, oj, hoj, hjall⟩ := mem_ready.1 hj
    have hreach : ∀ k, dep .any ops j k = true → (setAll l listed0).getD k false = true := fun k hk => reach_listed hcl _ j oj hoj hjall hk
    have hjr : j ∈ r := ((hmem j).1 hjσ).resolve_left hjl
    have hselj := fun cs d => Region.noSelect_spec hs j oj cs d hoj
    have hdeps : ∀ k ∈ σ, dep .any ops j k = true → k ∈ l := fun k hk hd => hlistedσ k hk (hreach k hd)
    have hpl : ((l.filter fun k => dep .any ops j k) ++ (l.filter fun k => !dep .any ops j k)).Perm l := List.filter_append_perm _ l
    have hndl : l.Nodup := (List.nodup_append.1 hndlr).1
    have hpd : (l.filter fun k => dep .any ops j k).Perm (σ.filter fun k => dep .any ops j k) := by
      refine (List.perm_ext_iff_of_nodup (hndl.filter _) (hnd.filter _)).2 fun x => ?_
      simp only [List.mem_filter]
      constructor
      · rintro ⟨h1, h2⟩; exact ⟨(hmem x).2 (.inl h1), h2⟩
      · rintro ⟨h1, h2⟩; exact ⟨hdeps x h1 h2, h2⟩
    have hact : putAll ops l vals a = putAll ops (l.filter fun k => !dep .any ops j k) vals (putAll ops (σ.filter fun k => dep .any ops j k) vals a) := by
      rw [← putAll_perm hpl (fun x hx y hy => hdst x ((hmem x).2 (.inl (hpl.mem_iff.1 hx))) y ((hmem y).2 (.inl (hpl.mem_iff.1 hy)))), putAll_append]
      rw [putAll_perm hpd (fun x hx y hy => hdst x ((hmem x).2 (.inl (List.mem_filter.1 hx).1)) y ((hmem y).2 (.inl (List.mem_filter.1 hy).1)))]
    have hblind : ∀ k ∈ (l.filter fun k => !dep .any ops j k), ∀ t, dstOf ops k = some t → t ∉ oj.looksAt ops := fun k hk t ht => by
      simp only [List.mem_filter, Bool.not_eq_true'] at hk
      exact blind_spec (hall j hjσ).1 hoj k ((hmem k).2 (.inl hk.1)) (fun e => hjl (e ▸ hk.1)) hk.2 t ht
    have hnone : ∀ k ∈ l, dep .any ops k j = true → False := fun k hk hd => by
      have hkσ := (hmem k).2 (.inl hk)
      cases hok : ops[k]? with
      | none => have := (hun k hkσ).1; rw [Array.getElem?_eq_none_iff] at hok; omega
      | some ok =>
        have hkl : (setAll l listed0).getD k false = true := by
          rw [setAll_get l listed0 k false (by rw [hsz]; exact (hun k hkσ).1)]; simp [hk]
        have := reach_listed hcl _ k ok hok (fun e he hbe => hcl k ok hok hkl e he hbe) hd
        exact hjl (hlistedσ j hjσ this)
    refine ⟨hjσ, hjl, hjr, fun hn => ?_, fun hn => ?_, fun k hk => ⟨fun e => hjl (e ▸ hk), (hmem k).2 (.inl hk), ?_⟩⟩
    · rw [hact]
      refine lVal_putAll hoj hselj _ _ hblind (G.gives j hjσ hn vals w hL (fun hsj => hb fun s hs' hsl => ?_) fun k hk hd => hR k (hdeps k hk hd))
      exact hnone s hsl (hsj s hs')
    · rw [hact]
      refine sVal_putAll hoj hselj _ _ hblind (G.stores j hjσ hn vals w hL (fun hsj => hb fun s hs' hsl => ?_) fun k hk hd => hR k (hdeps k hk hd))
      rcases hsj s hs' with rfl | h
      · exact hjl hsl
      · exact hnone s hsl h
    · cases hd : dep .any ops k j with
      | false => rfl
      | true => exact (hnone k hk hd).elim
theorem bag2_next {l r σ : List Nat} {j : Nat} (hp : (l ++ r).Perm σ) (hjr : j ∈ r) : ((l ++ [j]) ++ r.erase j).Perm σ := by
  rw [List.append_assoc, List.singleton_append]
  exact ((List.perm_append_left_iff l).2 (List.perm_cons_erase hjr).symm).trans hp
theorem setAll_snoc (l : List Nat) (j : Nat) (listed : Array Bool) : setAll (l ++ [j]) listed = (setAll l listed).setIfInBounds j true := by simp [setAll]
theorem putAll_snoc {l : List Nat} {j : Nat} (hjl : j ∉ l) (vals : Nat → Value) (v : Value) (a : Act) : putAll ops (l ++ [j]) (upd vals j v) a = (putAll ops l vals a).put (dstOf ops j) v := by
  rw [putAll_append, putAll_upd l a hjl]; simp [putAll, upd_same]
theorem wpAny_bag2 {st σ : List Nat} {listed0 : Array Bool} {a : Act} {b : World} {L : World → Prop} {R : Nat → (Nat → Value) → World → Prop} (hs : Region.noSelect ops = true) (hB : bag2B ops σ listed0 = true) (G : Bag2 P ops Q st σ a b L R) :
    ∀ (n : Nat) (l r : List Nat) (vals : Nat → Value) (w : World), r.length = n → (l ++ r).Perm σ → Closed .any ops (setAll l listed0) → L w → ((∀ s ∈ st, s ∉ l) → Later b w) → (∀ k ∈ l, R k vals w) → wpAny P .any ops Q n (setAll l listed0) (putAll ops l vals a) w := by
  intro n
  induction n with
  | zero =>
    intro l r vals w hr hp hcl hL hb hR
    obtain ⟨h1, h2, h3⟩ := (bag2_step hs hB G hp hcl hL hb hR).1 (List.eq_nil_of_length_eq_zero hr)
    refine ⟨h1, ?_⟩
    rw [h2]
    exact G.all vals w hL h3
  | succ n ih =>
    intro l r vals w hr hp hcl hL hb hR
    obtain ⟨_, h2, h3⟩ := bag2_step hs hB G hp hcl hL hb hR
    refine ⟨fun h0 => absurd h0 (h2 (fun e => by rw [e] at hr; simp at hr)), fun j hj => ?_⟩
    obtain ⟨hjσ, hjl, hjr, hl, hst, hk⟩ := h3 j hj
    have fin : ∀ v w', L w' → ((∀ s ∈ st, s ∉ l ++ [j]) → Later b w') → (∀ k ∈ l, R k vals w') → R j (upd vals j v) w' → wpAny P .any ops Q n ((setAll l listed0).setIfInBounds j true) ((putAll ops l vals a).put (dstOf ops j) v) w' := fun v w' hL' hb' hR' hj' => by
      rw [← setAll_snoc, ← putAll_snoc hjl]
      refine ih (l ++ [j]) (r.erase j) (upd vals j v) w' (by rw [List.length_erase_of_mem hjr]; omega) (bag2_next hp hjr) (by rw [setAll_snoc]; exact hcl.add hj) hL' hb' fun k hk' => ?_
      rcases List.mem_append.1 hk' with hk' | hk'
      · exact G.alone k (hk k hk').2.1 j hjσ (Ne.symm (hk k hk').1) (hk k hk').2.2 vals v w' (hR' k hk')
      · have : k = j := by simpa using hk'
        subst this; exact hj'
    by_cases hjst : j ∈ st
    · refine wpOp_of_sVal (hst hjst) fun v w' ⟨hL', hj', hd⟩ => fin v w' hL' (fun h => absurd (by simp) (h j hjst)) (fun k hk' => ?_) hj'
      cases hdd : dep .any ops j k with
      | true => exact hd k (hk k hk').2.1 hdd
      | false => exact G.still j hjσ hjst k (hk k hk').2.1 (hk k hk').1 hdd (hk k hk').2.2 vals w w' (hR k hk')
    · exact wpOp_of_lOp (lOp_of_lVal (hl hjst) fun v w' hl' hj' => fin v w' (G.near w w' hl' hL) (fun h => (hb fun s hs' hsl => h s hs' (by simp [hsl])).trans hl') (fun k hk' => G.stays k (hk k hk').2.1 vals w w' hl' (hR k hk')) hj')
theorem wpZ_bag2 {st σ : List Nat} {listed0 : Array Bool} {a : Act} {b : World} {L : World → Prop} {R : Nat → (Nat → Value) → World → Prop} (hs : Region.noSelect ops = true) (hB : bag2B ops σ listed0 = true) (G : Bag2 P ops Q st σ a b L R) :
    ∀ (n : Nat) (l r : List Nat) (vals : Nat → Value) (w0 : World), r.length = n → (l ++ r).Perm σ → Closed .any ops (setAll l listed0) → Later b w0 → (∀ k ∈ l, R k vals w0) → wpZ P .any ops (fun i => st.contains i) Q n (setAll l listed0) (putAll ops l vals a) w0 := by
  intro n
  induction n with
  | zero =>
    intro l r vals w0 hr hp hcl hb hR
    obtain ⟨h1, h2, h3⟩ := (bag2_step hs hB G hp hcl (G.near b w0 hb G.here) (fun _ => hb) hR).1 (List.eq_nil_of_length_eq_zero hr)
    refine ⟨h1, fun w hw => ?_⟩
    rw [h2]
    exact G.all vals w (G.near b w (hb.trans hw) G.here) fun k hk => G.stays k hk vals w0 w hw (h3 k hk)
  | succ n ih =>
    intro l r vals w0 hr hp hcl hb0 hR0 w hw
    have hb := hb0.trans hw
    have hlσ : ∀ k ∈ l, k ∈ σ := fun k hk => hp.mem_iff.1 (List.mem_append_left _ hk)
    have hR : ∀ k ∈ l, R k vals w := fun k hk => G.stays k (hlσ k hk) vals w0 w hw (hR0 k hk)
    obtain ⟨_, h2, h3⟩ := bag2_step hs hB G hp hcl (G.near b w hb G.here) (fun _ => hb) hR
    refine ⟨h2 (fun e => by rw [e] at hr; simp at hr), fun j hj => ?_⟩
    obtain ⟨hjσ, hjl, hjr, hl, hst, hk⟩ := h3 j hj
    have upds : ∀ v w', (∀ k ∈ l, R k vals w') → R j (upd vals j v) w' → ∀ k ∈ l ++ [j], R k (upd vals j v) w' := fun v w' hR' hj' k hk' => by
      rcases List.mem_append.1 hk' with hk' | hk'
      · exact G.alone k (hk k hk').2.1 j hjσ (Ne.symm (hk k hk').1) (hk k hk').2.2 vals v w' (hR' k hk')
      · have : k = j := by simpa using hk'
        subst this; exact hj'
    have hlen : (r.erase j).length = n := by rw [List.length_erase_of_mem hjr]; omega
    have hcl' : Closed .any ops (setAll (l ++ [j]) listed0) := by rw [setAll_snoc]; exact hcl.add hj
    refine ⟨fun hn => ?_, fun hn => ?_⟩
    · have hjst : j ∉ st := by simpa using hn
      refine lOp_of_lVal (hl hjst) fun v w' hl' hj' => ?_
      rw [← setAll_snoc, ← putAll_snoc hjl]
      exact ih (l ++ [j]) (r.erase j) (upd vals j v) w' hlen (bag2_next hp hjr) hcl' (hb.trans hl') (upds v w' (fun k hk' => G.stays k (hk k hk').2.1 vals w w' hl' (hR k hk')) hj')
    · have hjst : j ∈ st := by simpa using hn
      refine wpOp_of_sVal (hst hjst) fun v w' ⟨hL', hj', hd⟩ => ?_
      rw [← setAll_snoc, ← putAll_snoc hjl]
      refine wpAny_bag2 hs hB G n (l ++ [j]) (r.erase j) (upd vals j v) w' hlen (bag2_next hp hjr) hcl' hL' (fun h => absurd (by simp) (h j hjst)) (upds v w' (fun k hk' => ?_) hj')
      cases hdd : dep .any ops j k with
      | true => exact hd k (hk k hk').2.1 hdd
      | false => exact G.still j hjσ hjst k (hk k hk').2.1 (hk k hk').1 hdd (hk k hk').2.2 vals w w' (hR k hk')
/-- mild ones first, then the bag -/
def wpM (P : Program) (ops : Array Oper) (G : Act → World → Prop) : List Nat → Act → World → Prop
  | [], a, b => G a b
  | i :: μ, a, b => ∃ o, ops[i]? = some o ∧ if Region.wanted o (yielded ops a.tmps) then Oper.mild P o a b (fun a' => wpM P ops G μ a' b) else wpM P ops G μ (a.put o.dst undef) b
def mildsB (ops : Array Oper) (st σ : List Nat) : List Nat → Array Bool → Bool
  | [], listed => bag2B ops σ listed
  | i :: μ, listed => (Region.ready .any ops listed).contains i && Region.free .any ops listed i && !st.contains i && waitsB .any ops st i && mildsB ops st σ μ (listed.setIfInBounds i true)
theorem wpZ_of_wpM {st σ : List Nat} (hs : Region.noSelect ops = true) : ∀ (μ : List Nat) (listed : Array Bool) (a : Act) (b : World), Closed .any ops listed → mildsB ops st σ μ listed = true → wpM P ops (fun a b => ∃ L R, Bag2 P ops Q st σ a b L R) μ a b →
    wpZ P .any ops (fun i => st.contains i) Q (μ.length + σ.length) listed a b
  | [], listed, a, b, hcl, hB, h => by
    obtain ⟨L, R, G⟩ := h
    rw [List.length_nil, Nat.zero_add]
    exact wpZ_bag2 hs hB G σ.length [] σ (fun _ => undef) b rfl (List.Perm.refl _) hcl (Later.refl _) (by simp)
  | i :: μ, listed, a, b, hcl, hB, h => by
    simp only [mildsB, Bool.and_eq_true, Bool.not_eq_true'] at hB
    have hri : i ∈ Region.ready .any ops listed := by simpa using hB.1.1.1.1
    obtain ⟨o, ho, h⟩ := h
    rw [List.length_cons, Nat.add_right_comm]
    by_cases hw : Region.wanted o (yielded ops a.tmps) = true
    · simp only [hw, if_true] at h
      obtain ⟨v, hv, hk⟩ := h
      exact wpZ_first ho hB.1.1.2 (Region.noSelect_spec hs) (waits_spec hB.1.2) _ listed a b hcl (Region.free_spec ho hB.1.1.1.2) hri (.inl ⟨hw, hv⟩) (wpZ_of_wpM hs μ _ _ _ (hcl.add hri) hB.2 hk)
    · simp only [hw] at h
      exact wpZ_first ho hB.1.1.2 (Region.noSelect_spec hs) (waits_spec hB.1.2) _ listed a b hcl (Region.free_spec ho hB.1.1.1.2) hri (.inr ⟨by simpa using hw, rfl⟩) (wpZ_of_wpM hs μ _ _ _ (hcl.add hri) hB.2 h)
/-- A REGION THAT DRAWS ITS ORDER: mild operations (μ), then a bag (σ) with stores (st). -/
theorem wp_region_bag {id : Nat} {a : Act} {w : World} {l : List Oper} (μ σ st : List Nat) (hm : P.follows .mixedOrders = true) (hs : Region.noSelect l.toArray = true) (hn : (μ.length + σ.length == l.length) = true)
    (hB : mildsB l.toArray st σ μ (Array.replicate l.length false) = true)
    (h : wpM P l.toArray (fun a b => ∃ L R, Bag2 P l.toArray Q st σ a b L R) μ a w.drew) : (Code.region id l.toArray true).wp P Q a w := by
  refine wp_region_any hm ?_
  have h1 := wpAny_of_wpZ _ _ _ _ (wpZ_of_wpM hs μ _ a _ (Closed.start _) hB h)
  have e2 : l.length = μ.length + σ.length := by simp at hn; exact hn.symm
  have e : l.toArray.size = μ.length + σ.length := by simp [e2]
  rw [e]
  rw [e2] at h1
  exact h1
theorem wpM_mild {G : Act → World → Prop} {i : Nat} {o : Oper} {μ : List Nat} {a : Act} {b : World} (ho : ops[i]? = some o)
    (h : ∀ K : Act → Prop, (∀ a', wpM P ops G μ a' b → K a') → if Region.wanted o (yielded ops a.tmps) then Oper.mildG P o a b K else K (a.put o.dst undef)) : wpM P ops G (i :: μ) a b := by
  refine ⟨o, ho, ?_⟩
  have := h _ (fun _ h => h)
  split
  · rename_i hw; rw [if_pos hw] at this; exact Oper.mild_of_mildG this
  · rename_i hw; rw [if_neg hw] at this; exact this
/-- a bag, those that each one waits for (ds) given -/
theorem bag_of {st σ : List Nat} {a : Act} {b : World} (ds : Nat → List Nat) (L : World → Prop) (R : Nat → (Nat → Value) → World → Prop) (hd : (σ.all fun i => (σ.filter fun k => dep .any ops i k) == ds i) = true) (hsσ : (st.all fun i => σ.contains i) = true)
    (here : L b) (near : ∀ w w', Later w w' → L w → L w') (stays : ∀ i ∈ σ, ∀ vals w w', Later w w' → R i vals w → R i vals w')
    (alone : ∀ i ∈ σ, ∀ k ∈ σ, k ≠ i → k ∉ ds i → ∀ vals v w, R i vals w → R i (upd vals k v) w)
    (gives : ∀ i ∈ σ, i ∉ st → ∀ vals w, L w → ((∀ s ∈ st, i ∈ ds s) → Later b w) → (∀ k ∈ ds i, R k vals w) → lVal P ops i (fun v w' => R i (upd vals i v) w') (putAll ops (ds i) vals a) w)
    (stores : ∀ i ∈ σ, i ∈ st → ∀ vals w, L w → ((∀ s ∈ st, s = i ∨ i ∈ ds s) → Later b w) → (∀ k ∈ ds i, R k vals w) → sVal P ops i (fun v w' => L w' ∧ R i (upd vals i v) w' ∧ ∀ k ∈ ds i, R k vals w') (putAll ops (ds i) vals a) w)
    (still : ∀ i ∈ σ, i ∈ st → ∀ k ∈ σ, k ≠ i → k ∉ ds i → i ∉ ds k → ∀ vals w w', R k vals w → R k vals w')
    (all : ∀ vals w, L w → (∀ k ∈ σ, R k vals w) → Q .normal (putAll ops σ vals a) w) : ∃ L R, Bag2 P ops Q st σ a b L R := by
  simp only [List.all_eq_true, beq_iff_eq] at hd hsσ
  have hm : ∀ i ∈ σ, ∀ k, k ∈ ds i ↔ k ∈ σ ∧ dep .any ops i k = true := fun i hi k => by rw [← hd i hi, List.mem_filter]
  have hf : ∀ i ∈ σ, ∀ k ∈ σ, dep .any ops i k = false → k ∉ ds i := fun i hi k hk h hc => by rw [((hm i hi k).1 hc).2] at h; cases h
  have hst : ∀ s ∈ st, s ∈ σ := fun s hs => by simpa using hsσ s hs
  refine ⟨L, R, here, near, stays, fun i hi k hk hne h => alone i hi k hk hne (hf i hi k hk h), fun i hi hn vals w hL hb hR => ?_, fun i hi hn vals w hL hb hR => ?_, fun i hi hn k hk hne h1 h2 => still i hi hn k hk hne (hf i hi k hk h1) (hf k hk i hi h2), all⟩
  · rw [hd i hi]
    exact gives i hi hn vals w hL (fun h => hb fun s hs => ((hm s (hst s hs) i).1 (h s hs)).2) (fun k hk => hR k ((hm i hi k).1 hk).1 ((hm i hi k).1 hk).2)
  · rw [hd i hi]
    have h := stores i hi hn vals w hL (fun h => hb fun s hs => (h s hs).imp id fun h' => ((hm s (hst s hs) i).1 h').2) (fun k hk => hR k ((hm i hi k).1 hk).1 ((hm i hi k).1 hk).2)
    unfold sVal at *
    split
    · rename_i ho; simp [ho] at h
    · rename_i o ho
      simp only [ho] at h
      have conv : ∀ v w', (L w' ∧ R i (upd vals i v) w' ∧ ∀ k ∈ ds i, R k vals w') → (L w' ∧ R i (upd vals i v) w' ∧ ∀ k ∈ σ, dep .any ops i k = true → R k vals w') := fun v w' ⟨x, y, z⟩ => ⟨x, y, fun k hk hdd => z k ((hm i hi k).2 ⟨hk, hdd⟩)⟩
      split
      · rename_i hw
        simp only [hw, if_true] at h
        generalize (execOp (putAll ops (ds i) vals a).eval o).run P w = r at *
        cases r with
        | ok n w' => cases n <;> simp only [sUpon] at h ⊢ <;> exact conv _ _ h
        | halt x w' => simp only [sUpon] at h
      · rename_i hw
        simp only [hw] at h
        exact conv _ _ h
theorem wpM_nil {G : Act → World → Prop} {a : Act} {b : World} (h : G a b) : wpM P ops G [] a b := h
end
attribute [go_sem] sUpon
end Go.Proofs.YtfakboehmcimpaaGreat

namespace Go.Proofs.YtfakboehmcimpaaGreat
open Go Go.RowKit
set_option linter.unusedVariables false
set_option maxRecDepth 4000
set_option linter.unusedSimpArgs false
/-! A great region that draws its order, walked as the text has it: a check that costs little. -/
section
variable {P : Program} {ops : Array Oper}
/-- o, at place i, is ready when all ahead of it are done; a mild one stands apart from all behind it that don't wait for it; a loud one alone may come up -/
def txtB (ops : Array Oper) : Nat → List Oper → List Bool → Bool
  | _, [], [] => true
  | i, o :: l, k :: ks =>
    (o.after.toList.all fun e => !Region.binds .any e || Nat.blt e.on i) &&
    (match k with
     | true => l.all fun oj => oj.after.toList.any fun e => Region.binds .any e && Nat.ble i e.on
     | false => l.all fun oj => (oj.after.toList.any fun e => Region.binds .any e && Nat.beq e.on i) || o.apart ops oj) &&
    txtB ops (i + 1) l ks
  | _, _, _ => false
def upto (n i : Nat) : Array Bool := setAll (List.range i) (Array.replicate n false)
theorem upto_get (n i x : Nat) (d : Bool) (h : x < n) : (upto n i).getD x d = decide (x < i) := by
  unfold upto
  rw [setAll_get _ _ _ _ (by simpa using h)]
  simp [h]
theorem upto_succ (n i : Nat) : (upto n i).setIfInBounds i true = upto n (i + 1) := by
  unfold upto setAll
  rw [List.range_succ, List.foldl_append]
  rfl
theorem filter_only (n i : Nat) (p : Nat → Bool) (hi : i < n) (hp : ∀ j, j < n → (p j = true ↔ j = i)) : (List.range n).filter p = [i] := by
  have h1 : (List.range n).filter p = (List.range n).filter (fun j => j == i) := by
    apply List.filter_congr
    intro j hj
    have := hp j (by simpa using hj)
    cases hpj : p j with
    | true => simp [this.1 hpj]
    | false =>
      have : ¬ j = i := fun e => by rw [this.2 e] at hpj; cases hpj
      simp [this]
  rw [h1]
  clear h1 hp p
  induction n with
  | zero => omega
  | succ n ih =>
    rw [List.range_succ, List.filter_append]
    by_cases h : i < n
    · rw [ih h]
      have : ¬ n = i := by omega
      simp [this]
    · have : n = i := by omega
      subst this
      have : (List.range n).filter (fun j => j == n) = [] := by
        rw [List.filter_eq_nil_iff]
        intro j hj
        have := List.mem_range.1 hj
        simp; omega
      rw [this]
      simp
theorem sched_of_txt {l : List Oper} : ∀ (ks : List Bool) (m : List Oper) (i : Nat), l.drop i = m → txtB l.toArray i m ks = true → schedB .any l.toArray ((List.range' i m.length).zip ks) (upto l.length i) = true
  | [], [], i, hd, _ => by
    have hi : l.length ≤ i := List.drop_eq_nil_iff.1 hd
    show (Region.ready .any l.toArray (upto l.length i)).isEmpty = true
    rw [List.isEmpty_iff, List.eq_nil_iff_forall_not_mem]
    intro j hj
    obtain ⟨h0, o, ho, _⟩ := mem_ready.1 hj
    have hlt : j < l.length := by have := (Array.getElem?_eq_some_iff.1 ho).1; simpa using this
    rw [upto_get _ _ _ _ hlt] at h0
    simp at h0
    omega
  | [], _ :: _, _, _, h => by simp [txtB] at h
  | _ :: _, [], _, _, h => by simp [txtB] at h
  | k :: ks, o :: m, i, hd, h => by
    simp only [txtB, Bool.and_eq_true] at h
    have hi : i < l.length := by
      rcases Nat.lt_or_ge i l.length with h' | h'
      · exact h'
      · rw [List.drop_of_length_le h'] at hd; cases hd
    have hd' : l.drop (i + 1) = m := by
      have := congrArg List.tail hd
      simpa using this
    have hoi : l.toArray[i]? = some o := by
      have := congrArg (fun x : List Oper => x[0]?) hd
      simpa using this
    have hbehind : ∀ j oj, l.toArray[j]? = some oj → i < j → oj ∈ m := fun j oj hj hlt => by
      rw [← hd']
      have : (l.drop (i + 1))[j - (i + 1)]? = some oj := by
        rw [List.getElem?_drop, show i + 1 + (j - (i + 1)) = j from by omega]
        simpa using hj
      exact List.mem_of_getElem? this
    have hready : i ∈ Region.ready .any l.toArray (upto l.length i) := by
      refine mem_ready.2 ⟨by rw [upto_get _ _ _ _ hi]; simp, o, hoi, fun e he hb => ?_⟩
      have h1 := List.all_eq_true.1 h.1.1 e (by simpa using he)
      simp [hb] at h1
      have h2 : e.on < i := by simpa [Nat.blt] using h1
      rw [upto_get _ _ _ _ (by omega)]
      simpa using h2
    have hrest := sched_of_txt ks m (i + 1) hd' h.2
    rw [← upto_succ] at hrest
    rw [List.length_cons, List.range'_succ, List.zip_cons_cons]
    cases k with
    | false =>
      simp only [schedB, Bool.and_eq_true]
      refine ⟨⟨by simpa using hready, ?_⟩, hrest⟩
      unfold Region.free
      rw [hoi]
      simp only [List.all_eq_true, List.mem_range, Bool.or_eq_true, beq_iff_eq]
      intro j hj
      by_cases hji : j = i
      · exact .inl (.inl hji)
      · by_cases hlt : j < i
        · refine .inl (.inr ?_)
          rw [upto_get _ _ _ _ (by simpa using hj)]
          simpa using hlt
        · refine .inr ?_
          cases hoj : l.toArray[j]? with
          | none => rfl
          | some oj =>
            have h1 := List.all_eq_true.1 h.1.2 oj (hbehind j oj hoj (by omega))
            simp only [Bool.or_eq_true] at h1 ⊢
            rcases h1 with h1 | h1
            · refine .inl ?_
              obtain ⟨e, he, h2⟩ := List.any_eq_true.1 h1
              refine Array.any_eq_true'.2 ⟨e, by simpa using he, ?_⟩
              simp only [Bool.and_eq_true] at h2 ⊢
              exact ⟨h2.1, by have := Nat.eq_of_beq_eq_true h2.2; simpa using this⟩
            · exact .inr h1
    | true =>
      simp only [schedB, Bool.and_eq_true, beq_iff_eq]
      refine ⟨?_, hrest⟩
      have hsz : l.toArray.size = l.length := by simp
      unfold Region.ready
      rw [hsz]
      refine filter_only _ i _ hi fun j hj => ?_
      have hmem : (!(upto l.length i).getD j true && ((l.toArray[j]?).map (·.after.all fun e => !Region.binds .any e || (upto l.length i).getD e.on false)).getD false) = true ↔ j ∈ Region.ready .any l.toArray (upto l.length i) := by
        unfold Region.ready
        rw [List.mem_filter, List.mem_range, hsz]
        exact ⟨fun h => ⟨hj, h⟩, fun h => h.2⟩
      rw [hmem]
      constructor
      · intro hjr
        obtain ⟨h0, oj, hoj, hall⟩ := mem_ready.1 hjr
        rw [upto_get _ _ _ _ hj] at h0
        have hij : i ≤ j := by simpa using h0
        by_cases hji : j = i
        · exact hji
        · exfalso
          have h1 := List.all_eq_true.1 h.1.2 oj (hbehind j oj hoj (by omega))
          obtain ⟨e, he, h2⟩ := List.any_eq_true.1 h1
          simp only [Bool.and_eq_true] at h2
          have h3 := hall e (by simpa using he) h2.1
          have h4 : i ≤ e.on := by have := h2.2; simpa using this
          rcases Nat.lt_or_ge e.on l.length with h' | h'
          · rw [upto_get _ _ _ _ h'] at h3
            simp at h3
            omega
          · rw [Array.getD_eq_getD_getElem?, Array.getElem?_eq_none (by unfold upto; rw [setAll_size]; simpa using h')] at h3
            simp at h3
      · rintro rfl; exact hready
/-- ONE WALK IN THE TEXT's ORDER (true: loud). -/
theorem wp_region_text {id : Nat} {Q : Exit → Act → World → Prop} {a : Act} {w : World} {l : List Oper} (ks : List Bool) (hm : P.follows .mixedOrders = true) (hs : Region.noSelect l.toArray = true) (hn : (ks.length == l.length) = true)
    (hB : txtB l.toArray 0 l ks = true)
    (h : wpS P l.toArray (fun a' w' => Q .normal a' w') ((List.range' 0 ks.length).zip ks) a w.drew) : (Code.region id l.toArray true).wp P Q a w := by
  have e : ks.length = l.length := by simpa using hn
  rw [e] at h
  refine wp_region_sched ((List.range' 0 l.length).zip ks) hm hs (by simp [e]) ?_ h
  have := sched_of_txt ks l 0 rfl hB
  simpa [upto, setAll] using this
end
end Go.Proofs.YtfakboehmcimpaaGreat
