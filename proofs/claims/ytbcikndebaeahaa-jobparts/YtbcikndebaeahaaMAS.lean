import Derived.Test.YtbcikndebaeahaaMAO
namespace Go.Proofs.Ytbcikndebaeahaa
open Go Go.RowKit
set_option linter.unusedVariables false
set_option maxRecDepth 4000
set_option linter.unusedSimpArgs false
/-! A bag (Reg3) whose stores may change what others stand on, as they say (SW). -/
section
variable {P : Program} {ops : Array Oper} {md : Region.Mode} {Q : Exit → Act → World → Prop}
/-- what is asked of a bag with stores (st) -/
structure Bag3 (P : Program) (ops : Array Oper) (Q : Exit → Act → World → Prop) (st σ : List Nat) (a : Act) (b : World) (L : World → Prop) (R : Nat → (Nat → Value) → World → Prop) (SW : Nat → World → World → Prop) : Prop where
  here : L b
  near : ∀ w w', Later w w' → L w → L w'
  stays : ∀ i ∈ σ, ∀ vals w w', Later w w' → R i vals w → R i vals w'
  alone : ∀ i ∈ σ, ∀ k ∈ σ, k ≠ i → dep .any ops i k = false → ∀ vals v w, R i vals w → R i (upd vals k v) w
  gives : ∀ i ∈ σ, i ∉ st → ∀ vals w, L w → ((∀ s ∈ st, dep .any ops s i = true) → Later b w) → (∀ k ∈ σ, dep .any ops i k = true → R k vals w) → lVal P ops i (fun v w' => R i (upd vals i v) w') (putAll ops (σ.filter fun k => dep .any ops i k) vals a) w
  stores : ∀ i ∈ σ, i ∈ st → ∀ vals w, L w → ((∀ s ∈ st, s = i ∨ dep .any ops s i = true) → Later b w) → (∀ k ∈ σ, dep .any ops i k = true → R k vals w) → sVal P ops i (fun v w' => L w' ∧ R i (upd vals i v) w' ∧ SW i w w' ∧ ∀ k ∈ σ, dep .any ops i k = true → R k vals w') (putAll ops (σ.filter fun k => dep .any ops i k) vals a) w
  still : ∀ i ∈ σ, i ∈ st → ∀ k ∈ σ, k ≠ i → dep .any ops i k = false → dep .any ops k i = false → ∀ vals w w', SW i w w' → R k vals w → R k vals w'
  all : ∀ vals w, L w → (∀ k ∈ σ, R k vals w) → Q .normal (putAll ops σ vals a) w
/-- what is known where l is done, r is not -/
theorem bag3_step {st σ : List Nat} {listed0 : Array Bool} {a : Act} {b : World} {L : World → Prop} {R : Nat → (Nat → Value) → World → Prop} {SW : Nat → World → World → Prop} (hs : Region.noSelect ops = true) (hB : bag2B ops σ listed0 = true) (G : Bag3 P ops Q st σ a b L R SW)
    {l r : List Nat} {vals : Nat → Value} {w : World} (hp : (l ++ r).Perm σ) (hcl : Closed .any ops (setAll l listed0)) (hL : L w) (hb : (∀ s ∈ st, s ∉ l) → Later b w) (hR : ∀ k ∈ l, R k vals w) :
    (r = [] → Region.ready .any ops (setAll l listed0) = [] ∧ putAll ops l vals a = putAll ops σ vals a ∧ ∀ k ∈ σ, R k vals w) ∧ (r ≠ [] → Region.ready .any ops (setAll l listed0) ≠ []) ∧ ∀ j ∈ Region.ready .any ops (setAll l listed0), j ∈ σ ∧ j ∉ l ∧ j ∈ r ∧
      (j ∉ st → lVal P ops j (fun v w' => R j (upd vals j v) w') (putAll ops l vals a) w) ∧
      (j ∈ st → sVal P ops j (fun v w' => L w' ∧ R j (upd vals j v) w' ∧ SW j w w' ∧ ∀ k ∈ σ, dep .any ops j k = true → R k vals w') (putAll ops l vals a) w) ∧
      ∀ k ∈ l, k ≠ j ∧ k ∈ σ ∧ dep .any ops k j = false := by
  simp only [bag2B, Bool.and_eq_true, beq_iff_eq, decide_eq_true_eq, List.all_eq_true, Bool.not_eq_true', List.mem_range, Bool.or_eq_true] at hB
  obtain ⟨⟨⟨⟨⟨hsz, htop⟩, hds⟩, hall⟩, hnd⟩, hcov⟩ := hB
  have hdst := dsts_spec σ hds
  have hun : ∀ i ∈ σ, i < ops.size ∧ listed0.getD i true = false := fun i hi => by
    have h0 := (hall i hi).2
    refine ⟨?_, h0⟩
    rcases Nat.lt_or_ge i listed0.size with h' | h'
    · rw [← hsz]; exact h'
    · simp [Array.getElem?_eq_none h'] at h0
  have hunF : ∀ i ∈ σ, listed0.getD i false = false := fun i hi => by
    have h1 := hun i hi
    have : i < listed0.size := by rw [hsz]; exact h1.1
    have h2 := h1.2
    simp [this] at h2 ⊢
    exact h2
  have hmem : ∀ x, x ∈ σ ↔ x ∈ l ∨ x ∈ r := fun x => by rw [← hp.mem_iff, List.mem_append]
  have hndlr : (l ++ r).Nodup := hp.nodup_iff.2 hnd
  have hlr : ∀ x ∈ r, x ∉ l := fun x hx hl => by
    rw [List.nodup_append] at hndlr
    exact hndlr.2.2 x hl x hx rfl
  have hlistedσ : ∀ x ∈ σ, (setAll l listed0).getD x false = true → x ∈ l := fun x hx h => by
    rw [setAll_get l listed0 x false (by rw [hsz]; exact (hun x hx).1), hunF x hx] at h
    simpa using h
  have hkey : ∀ j ∈ Region.ready .any ops (setAll l listed0), j ∈ σ ∧ j ∉ l := by
    intro j hj
    obtain ⟨hjun, oj, hoj, hjall⟩ := mem_ready.1 hj
    have hlt := (Array.getElem?_eq_some_iff.1 hoj).1
    have hlt' : j < listed0.size := by rw [hsz]; exact hlt
    have hjl : j ∉ l := fun h => by
      rw [setAll_get l listed0 j true hlt'] at hjun
      simp [h] at hjun
    refine ⟨?_, hjl⟩
    rcases hcov j hlt with h | h
    · exfalso
      rw [setAll_get l listed0 j true hlt'] at hjun
      simp [hlt'] at hjun h
      rw [h] at hjun
      simp at hjun
    · simpa using h
  refine ⟨fun hr0 => ?_, fun hr0 => ?_, fun j hj => ?_⟩
  · subst hr0
    rw [List.append_nil] at hp
    refine ⟨?_, putAll_perm hp (fun x hx y hy => hdst x (hp.mem_iff.1 hx) y (hp.mem_iff.1 hy)) vals a, fun k hk => hR k (hp.mem_iff.2 hk)⟩
    rw [List.eq_nil_iff_forall_not_mem]
    intro j hj
    have := hkey j hj
    exact this.2 (hp.mem_iff.2 this.1)
  · obtain ⟨x0, hx0⟩ : ∃ x, x ∈ r := by
      cases r with
      | nil => exact absurd rfl hr0
      | cons x r => exact ⟨x, by simp⟩
    obtain ⟨s1, i, s2, hse, h1, h2⟩ := first_not σ l ⟨x0, (hmem x0).2 (.inr hx0), hlr x0 hx0⟩
    have hi := top_spec σ listed0 htop s1 i s2 hse
    have hiσ : i ∈ σ := by rw [hse]; simp
    obtain ⟨g0, o, ho, hall'⟩ := mem_ready.1 hi
    have : i ∈ Region.ready .any ops (setAll l listed0) := by
      refine mem_ready.2 ⟨?_, o, ho, fun e he hbe => ?_⟩
      · rw [setAll_get l listed0 i true (by rw [hsz]; exact (hun i hiσ).1), (hun i hiσ).2]
        simpa using h2
      · have h3 := hall' e he hbe
        rcases Nat.lt_or_ge e.on listed0.size with h' | h'
        · rw [setAll_get _ _ _ _ h'] at h3 ⊢
          simp only [Bool.or_eq_true, decide_eq_true_eq] at h3 ⊢
          rcases h3 with h3 | h3
          · exact .inl h3
          · exact .inr (h1 _ h3)
        · rw [Array.getD_eq_getD_getElem?, Array.getElem?_eq_none (by rw [setAll_size]; exact h')] at h3
          simp at h3
    intro h0
    rw [h0] at this
    cases this
  · obtain ⟨hjσ, hjl⟩ := hkey j hj
    obtain ⟨hjun, oj, hoj, hjall⟩ := mem_ready.1 hj
    have hreach : ∀ k, dep .any ops j k = true → (setAll l listed0).getD k false = true := fun k hk => reach_listed hcl _ j oj hoj hjall hk
    have hjr : j ∈ r := ((hmem j).1 hjσ).resolve_left hjl
    have hselj := fun cs d => Region.noSelect_spec hs j oj cs d hoj
    have hdeps : ∀ k ∈ σ, dep .any ops j k = true → k ∈ l := fun k hk hd => hlistedσ k hk (hreach k hd)
    have hpl : ((l.filter fun k => dep .any ops j k) ++ (l.filter fun k => !dep .any ops j k)).Perm l := List.filter_append_perm _ l
    have hndl : l.Nodup := (List.nodup_append.1 hndlr).1
    have hpd : (l.filter fun k => dep .any ops j k).Perm (σ.filter fun k => dep .any ops j k) := by
      refine (List.perm_ext_iff_of_nodup (hndl.filter _) (hnd.filter _)).2 fun x => ?_
      simp only [List.mem_filter]
      constructor
      · rintro ⟨h1, h2⟩; exact ⟨(hmem x).2 (.inl h1), h2⟩
      · rintro ⟨h1, h2⟩; exact ⟨hdeps x h1 h2, h2⟩
    have hact : putAll ops l vals a = putAll ops (l.filter fun k => !dep .any ops j k) vals (putAll ops (σ.filter fun k => dep .any ops j k) vals a) := by
      rw [← putAll_perm hpl (fun x hx y hy => hdst x ((hmem x).2 (.inl (hpl.mem_iff.1 hx))) y ((hmem y).2 (.inl (hpl.mem_iff.1 hy)))), putAll_append]
      rw [putAll_perm hpd (fun x hx y hy => hdst x ((hmem x).2 (.inl (List.mem_filter.1 hx).1)) y ((hmem y).2 (.inl (List.mem_filter.1 hy).1)))]
    have hblind : ∀ k ∈ (l.filter fun k => !dep .any ops j k), ∀ t, dstOf ops k = some t → t ∉ oj.looksAt ops := fun k hk t ht => by
      simp only [List.mem_filter, Bool.not_eq_true'] at hk
      exact blind_spec (hall j hjσ).1 hoj k ((hmem k).2 (.inl hk.1)) (fun e => hjl (e ▸ hk.1)) hk.2 t ht
    have hnone : ∀ k ∈ l, dep .any ops k j = true → False := fun k hk hd => by
      have hkσ := (hmem k).2 (.inl hk)
      cases hok : ops[k]? with
      | none => have := (hun k hkσ).1; rw [Array.getElem?_eq_none_iff] at hok; omega
      | some ok =>
        have hkl : (setAll l listed0).getD k false = true := by
          rw [setAll_get l listed0 k false (by rw [hsz]; exact (hun k hkσ).1)]; simp [hk]
        have := reach_listed hcl _ k ok hok (fun e he hbe => hcl k ok hok hkl e he hbe) hd
        exact hjl (hlistedσ j hjσ this)
    refine ⟨hjσ, hjl, hjr, fun hn => ?_, fun hn => ?_, fun k hk => ⟨fun e => hjl (e ▸ hk), (hmem k).2 (.inl hk), ?_⟩⟩
    · rw [hact]
      refine lVal_putAll hoj hselj _ _ hblind (G.gives j hjσ hn vals w hL (fun hsj => hb fun s hs' hsl => ?_) fun k hk hd => hR k (hdeps k hk hd))
      exact hnone s hsl (hsj s hs')
    · rw [hact]
      refine sVal_putAll hoj hselj _ _ hblind (G.stores j hjσ hn vals w hL (fun hsj => hb fun s hs' hsl => ?_) fun k hk hd => hR k (hdeps k hk hd))
      rcases hsj s hs' with rfl | h
      · exact hjl hsl
      · exact hnone s hsl h
    · cases hd : dep .any ops k j with
      | false => rfl
      | true => exact (hnone k hk hd).elim
theorem wpAny_bag3 {st σ : List Nat} {listed0 : Array Bool} {a : Act} {b : World} {L : World → Prop} {R : Nat → (Nat → Value) → World → Prop} {SW : Nat → World → World → Prop} (hs : Region.noSelect ops = true) (hB : bag2B ops σ listed0 = true) (G : Bag3 P ops Q st σ a b L R SW) :
    ∀ (n : Nat) (l r : List Nat) (vals : Nat → Value) (w : World), r.length = n → (l ++ r).Perm σ → Closed .any ops (setAll l listed0) → L w → ((∀ s ∈ st, s ∉ l) → Later b w) → (∀ k ∈ l, R k vals w) → wpAny P .any ops Q n (setAll l listed0) (putAll ops l vals a) w := by
  intro n
  induction n with
  | zero =>
    intro l r vals w hr hp hcl hL hb hR
    obtain ⟨h1, h2, h3⟩ := (bag3_step hs hB G hp hcl hL hb hR).1 (List.eq_nil_of_length_eq_zero hr)
    refine ⟨h1, ?_⟩
    rw [h2]
    exact G.all vals w hL h3
  | succ n ih =>
    intro l r vals w hr hp hcl hL hb hR
    obtain ⟨_, h2, h3⟩ := bag3_step hs hB G hp hcl hL hb hR
    refine ⟨fun h0 => absurd h0 (h2 (fun e => by rw [e] at hr; simp at hr)), fun j hj => ?_⟩
    obtain ⟨hjσ, hjl, hjr, hl, hst, hk⟩ := h3 j hj
    have fin : ∀ v w', L w' → ((∀ s ∈ st, s ∉ l ++ [j]) → Later b w') → (∀ k ∈ l, R k vals w') → R j (upd vals j v) w' → wpAny P .any ops Q n ((setAll l listed0).setIfInBounds j true) ((putAll ops l vals a).put (dstOf ops j) v) w' := fun v w' hL' hb' hR' hj' => by
      rw [← setAll_snoc, ← putAll_snoc hjl]
      refine ih (l ++ [j]) (r.erase j) (upd vals j v) w' (by rw [List.length_erase_of_mem hjr]; omega) (bag2_next hp hjr) (by rw [setAll_snoc]; exact hcl.add hj) hL' hb' fun k hk' => ?_
      rcases List.mem_append.1 hk' with hk' | hk'
      · exact G.alone k (hk k hk').2.1 j hjσ (Ne.symm (hk k hk').1) (hk k hk').2.2 vals v w' (hR' k hk')
      · have : k = j := by simpa using hk'
        subst this; exact hj'
    by_cases hjst : j ∈ st
    · refine wpOp_of_sVal (hst hjst) fun v w' ⟨hL', hj', hsw, hd⟩ => fin v w' hL' (fun h => absurd (by simp) (h j hjst)) (fun k hk' => ?_) hj'
      cases hdd : dep .any ops j k with
      | true => exact hd k (hk k hk').2.1 hdd
      | false => exact G.still j hjσ hjst k (hk k hk').2.1 (hk k hk').1 hdd (hk k hk').2.2 vals w w' hsw (hR k hk')
    · exact wpOp_of_lOp (lOp_of_lVal (hl hjst) fun v w' hl' hj' => fin v w' (G.near w w' hl' hL) (fun h => (hb fun s hs' hsl => h s hs' (by simp [hsl])).trans hl') (fun k hk' => G.stays k (hk k hk').2.1 vals w w' hl' (hR k hk')) hj')
theorem wpZ_bag3 {st σ : List Nat} {listed0 : Array Bool} {a : Act} {b : World} {L : World → Prop} {R : Nat → (Nat → Value) → World → Prop} {SW : Nat → World → World → Prop} (hs : Region.noSelect ops = true) (hB : bag2B ops σ listed0 = true) (G : Bag3 P ops Q st σ a b L R SW) :
    ∀ (n : Nat) (l r : List Nat) (vals : Nat → Value) (w0 : World), r.length = n → (l ++ r).Perm σ → Closed .any ops (setAll l listed0) → Later b w0 → (∀ k ∈ l, R k vals w0) → wpZ P .any ops (fun i => st.contains i) Q n (setAll l listed0) (putAll ops l vals a) w0 := by
  intro n
  induction n with
  | zero =>
    intro l r vals w0 hr hp hcl hb hR
    obtain ⟨h1, h2, h3⟩ := (bag3_step hs hB G hp hcl (G.near b w0 hb G.here) (fun _ => hb) hR).1 (List.eq_nil_of_length_eq_zero hr)
    refine ⟨h1, fun w hw => ?_⟩
    rw [h2]
    exact G.all vals w (G.near b w (hb.trans hw) G.here) fun k hk => G.stays k hk vals w0 w hw (h3 k hk)
  | succ n ih =>
    intro l r vals w0 hr hp hcl hb0 hR0 w hw
    have hb := hb0.trans hw
    have hlσ : ∀ k ∈ l, k ∈ σ := fun k hk => hp.mem_iff.1 (List.mem_append_left _ hk)
    have hR : ∀ k ∈ l, R k vals w := fun k hk => G.stays k (hlσ k hk) vals w0 w hw (hR0 k hk)
    obtain ⟨_, h2, h3⟩ := bag3_step hs hB G hp hcl (G.near b w hb G.here) (fun _ => hb) hR
    refine ⟨h2 (fun e => by rw [e] at hr; simp at hr), fun j hj => ?_⟩
    obtain ⟨hjσ, hjl, hjr, hl, hst, hk⟩ := h3 j hj
    have upds : ∀ v w', (∀ k ∈ l, R k vals w') → R j (upd vals j v) w' → ∀ k ∈ l ++ [j], R k (upd vals j v) w' := fun v w' hR' hj' k hk' => by
      rcases List.mem_append.1 hk' with hk' | hk'
      · exact G.alone k (hk k hk').2.1 j hjσ (Ne.symm (hk k hk').1) (hk k hk').2.2 vals v w' (hR' k hk')
      · have : k = j := by simpa using hk'
        subst this; exact hj'
    have hlen : (r.erase j).length = n := by rw [List.length_erase_of_mem hjr]; omega
    have hcl' : Closed .any ops (setAll (l ++ [j]) listed0) := by rw [setAll_snoc]; exact hcl.add hj
    refine ⟨fun hn => ?_, fun hn => ?_⟩
    · have hjst : j ∉ st := by simpa using hn
      refine lOp_of_lVal (hl hjst) fun v w' hl' hj' => ?_
      rw [← setAll_snoc, ← putAll_snoc hjl]
      exact ih (l ++ [j]) (r.erase j) (upd vals j v) w' hlen (bag2_next hp hjr) hcl' (hb.trans hl') (upds v w' (fun k hk' => G.stays k (hk k hk').2.1 vals w w' hl' (hR k hk')) hj')
    · have hjst : j ∈ st := by simpa using hn
      refine wpOp_of_sVal (hst hjst) fun v w' ⟨hL', hj', hsw, hd⟩ => ?_
      rw [← setAll_snoc, ← putAll_snoc hjl]
      refine wpAny_bag3 hs hB G n (l ++ [j]) (r.erase j) (upd vals j v) w' hlen (bag2_next hp hjr) hcl' hL' (fun h => absurd (by simp) (h j hjst)) (upds v w' (fun k hk' => ?_) hj')
      cases hdd : dep .any ops j k with
      | true => exact hd k (hk k hk').2.1 hdd
      | false => exact G.still j hjσ hjst k (hk k hk').2.1 (hk k hk').1 hdd (hk k hk').2.2 vals w w' hsw (hR k hk')
theorem wpZ_of_wpM3 {st σ : List Nat} (hs : Region.noSelect ops = true) : ∀ (μ : List Nat) (listed : Array Bool) (a : Act) (b : World), Closed .any ops listed → mildsB ops st σ μ listed = true → wpM P ops (fun a b => ∃ L R SW, Bag3 P ops Q st σ a b L R SW) μ a b →
    wpZ P .any ops (fun i => st.contains i) Q (μ.length + σ.length) listed a b
  | [], listed, a, b, hcl, hB, h => by
    obtain ⟨L, R, SW, G⟩ := h
    rw [List.length_nil, Nat.zero_add]
    exact wpZ_bag3 hs hB G σ.length [] σ (fun _ => undef) b rfl (List.Perm.refl _) hcl (Later.refl _) (by simp)
  | i :: μ, listed, a, b, hcl, hB, h => by
    simp only [mildsB, Bool.and_eq_true, Bool.not_eq_true'] at hB
    have hri : i ∈ Region.ready .any ops listed := by simpa using hB.1.1.1.1
    obtain ⟨o, ho, h⟩ := h
    rw [List.length_cons, Nat.add_right_comm]
    by_cases hw : Region.wanted o (yielded ops a.tmps) = true
    · simp only [hw, if_true] at h
      obtain ⟨v, hv, hk⟩ := h
      exact wpZ_first ho hB.1.1.2 (Region.noSelect_spec hs) (waits_spec hB.1.2) _ listed a b hcl (Region.free_spec ho hB.1.1.1.2) hri (.inl ⟨hw, hv⟩) (wpZ_of_wpM3 hs μ _ _ _ (hcl.add hri) hB.2 hk)
    · simp only [hw] at h
      exact wpZ_first ho hB.1.1.2 (Region.noSelect_spec hs) (waits_spec hB.1.2) _ listed a b hcl (Region.free_spec ho hB.1.1.1.2) hri (.inr ⟨by simpa using hw, rfl⟩) (wpZ_of_wpM3 hs μ _ _ _ (hcl.add hri) hB.2 h)
/-- A REGION THAT DRAWS ITS ORDER: mild operations (μ), then a bag (σ) with stores (st). -/
theorem wp_region_bag3 {id : Nat} {a : Act} {w : World} {l : List Oper} (μ σ st : List Nat) (hm : P.follows .mixedOrders = true) (hs : Region.noSelect l.toArray = true) (hn : (μ.length + σ.length == l.length) = true)
    (hB : mildsB l.toArray st σ μ (Array.replicate l.length false) = true)
    (h : wpM P l.toArray (fun a b => ∃ L R SW, Bag3 P l.toArray Q st σ a b L R SW) μ a w.drew) : (Code.region id l.toArray true).wp P Q a w := by
  refine wp_region_any hm ?_
  have h1 := wpAny_of_wpZ _ _ _ _ (wpZ_of_wpM3 hs μ _ a _ (Closed.start _) hB h)
  have e2 : l.length = μ.length + σ.length := by simp at hn; exact hn.symm
  have e : l.toArray.size = μ.length + σ.length := by simp [e2]
  rw [e]
  rw [e2] at h1
  exact h1
/-- a bag, those that each one waits for (ds) given -/
theorem bag_of3 {st σ : List Nat} {a : Act} {b : World} (ds : Nat → List Nat) (L : World → Prop) (R : Nat → (Nat → Value) → World → Prop) (SW : Nat → World → World → Prop) (hd : (σ.all fun i => (σ.filter fun k => dep .any ops i k) == ds i) = true) (hsσ : (st.all fun i => σ.contains i) = true)
    (here : L b) (near : ∀ w w', Later w w' → L w → L w') (stays : ∀ i ∈ σ, ∀ vals w w', Later w w' → R i vals w → R i vals w')
    (alone : ∀ i ∈ σ, ∀ k ∈ σ, k ≠ i → k ∉ ds i → ∀ vals v w, R i vals w → R i (upd vals k v) w)
    (gives : ∀ i ∈ σ, i ∉ st → ∀ vals w, L w → ((∀ s ∈ st, i ∈ ds s) → Later b w) → (∀ k ∈ ds i, R k vals w) → lVal P ops i (fun v w' => R i (upd vals i v) w') (putAll ops (ds i) vals a) w)
    (stores : ∀ i ∈ σ, i ∈ st → ∀ vals w, L w → ((∀ s ∈ st, s = i ∨ i ∈ ds s) → Later b w) → (∀ k ∈ ds i, R k vals w) → sVal P ops i (fun v w' => L w' ∧ R i (upd vals i v) w' ∧ SW i w w' ∧ ∀ k ∈ ds i, R k vals w') (putAll ops (ds i) vals a) w)
    (still : ∀ i ∈ σ, i ∈ st → ∀ k ∈ σ, k ≠ i → k ∉ ds i → i ∉ ds k → ∀ vals w w', SW i w w' → R k vals w → R k vals w')
    (all : ∀ vals w, L w → (∀ k ∈ σ, R k vals w) → Q .normal (putAll ops σ vals a) w) : ∃ L R SW, Bag3 P ops Q st σ a b L R SW := by
  simp only [List.all_eq_true, beq_iff_eq] at hd hsσ
  have hm : ∀ i ∈ σ, ∀ k, k ∈ ds i ↔ k ∈ σ ∧ dep .any ops i k = true := fun i hi k => by rw [← hd i hi, List.mem_filter]
  have hf : ∀ i ∈ σ, ∀ k ∈ σ, dep .any ops i k = false → k ∉ ds i := fun i hi k hk h hc => by rw [((hm i hi k).1 hc).2] at h; cases h
  have hst : ∀ s ∈ st, s ∈ σ := fun s hs => by simpa using hsσ s hs
  refine ⟨L, R, SW, here, near, stays, fun i hi k hk hne h => alone i hi k hk hne (hf i hi k hk h), fun i hi hn vals w hL hb hR => ?_, fun i hi hn vals w hL hb hR => ?_, fun i hi hn k hk hne h1 h2 => still i hi hn k hk hne (hf i hi k hk h1) (hf k hk i hi h2), all⟩
  · rw [hd i hi]
    exact gives i hi hn vals w hL (fun h => hb fun s hs => ((hm s (hst s hs) i).1 (h s hs)).2) (fun k hk => hR k ((hm i hi k).1 hk).1 ((hm i hi k).1 hk).2)
  · rw [hd i hi]
    have h := stores i hi hn vals w hL (fun h => hb fun s hs => (h s hs).imp id fun h' => ((hm s (hst s hs) i).1 h').2) (fun k hk => hR k ((hm i hi k).1 hk).1 ((hm i hi k).1 hk).2)
    unfold sVal at *
    split
    · rename_i ho; simp [ho] at h
    · rename_i o ho
      simp only [ho] at h
      have conv : ∀ v w', (L w' ∧ R i (upd vals i v) w' ∧ SW i w w' ∧ ∀ k ∈ ds i, R k vals w') → (L w' ∧ R i (upd vals i v) w' ∧ SW i w w' ∧ ∀ k ∈ σ, dep .any ops i k = true → R k vals w') := fun v w' ⟨x, y, s, z⟩ => ⟨x, y, s, fun k hk hdd => z k ((hm i hi k).2 ⟨hk, hdd⟩)⟩
      split
      · rename_i hw
        simp only [hw, if_true] at h
        generalize (execOp (putAll ops (ds i) vals a).eval o).run P w = r at *
        cases r with
        | ok n w' => cases n <;> simp only [sUpon] at h ⊢ <;> exact conv _ _ h
        | halt x w' => simp only [sUpon] at h
      · rename_i hw
        simp only [hw] at h
        exact conv _ _ h
theorem bag_of4 {st σ : List Nat} {a : Act} {b : World} (gs : List Nat) (ds : Nat → List Nat) (L : World → Prop) (R : Nat → (Nat → Value) → World → Prop) (SW : Nat → World → World → Prop) (hd : (σ.all fun i => (σ.filter fun k => dep .any ops i k) == ds i) = true) (hsσ : (st.all fun i => σ.contains i) = true)
    (hgs : (σ.all fun i => st.contains i || gs.contains i) = true) (here : L b) (near : ∀ w w', Later w w' → L w → L w') (stays : ∀ i ∈ σ, ∀ vals w w', Later w w' → R i vals w → R i vals w')
    (alone : ∀ i ∈ σ, ∀ k ∈ σ, k ≠ i → k ∉ ds i → ∀ vals v w, R i vals w → R i (upd vals k v) w)
    (gives : AllOf (fun i => ∀ vals w, L w → (∀ k ∈ ds i, R k vals w) → lVal P ops i (fun v w' => R i (upd vals i v) w') (putAll ops (ds i) vals a) w) gs)
    (stores : AllOf (fun i => ∀ vals w, L w → (∀ k ∈ ds i, R k vals w) → sVal P ops i (fun v w' => L w' ∧ R i (upd vals i v) w' ∧ SW i w w' ∧ ∀ k ∈ ds i, R k vals w') (putAll ops (ds i) vals a) w) st)
    (still : ∀ i ∈ σ, i ∈ st → ∀ k ∈ σ, k ≠ i → k ∉ ds i → i ∉ ds k → ∀ vals w w', SW i w w' → R k vals w → R k vals w')
    (all : ∀ vals w, L w → (∀ k ∈ σ, R k vals w) → Q .normal (putAll ops σ vals a) w) : ∃ L R SW, Bag3 P ops Q st σ a b L R SW := by
  refine bag_of3 ds L R SW hd hsσ here near stays alone (fun i hi hn vals w hL _ hR => ?_) (fun i hi hn vals w hL _ hR => AllOf.get stores i hn vals w hL hR) still all
  simp only [List.all_eq_true] at hgs
  have := hgs i hi
  simp only [Bool.or_eq_true, List.contains_iff_mem] at this
  rcases this with h | h
  · exact absurd h hn
  · exact AllOf.get gives i h vals w hL hR
end
end Go.Proofs.Ytbcikndebaeahaa
