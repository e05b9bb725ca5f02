import Derived.Test.YtfefnkeognccpaaReg2
namespace Go.Proofs.Ytfefnkeognccpaa
open Go Go.RowKit
set_option linter.unusedVariables false
set_option linter.unusedSimpArgs false

/-! A great region that draws its order, walked as the text has it: a check that costs little. -/
section
variable {P : Program} {ops : Array Oper}

/-- o, at place i, is ready when all ahead of it are done; a mild one stands apart from all behind it that don't wait for it; a loud one alone may come up -/
def txtB (ops : Array Oper) : Nat → List Oper → List Bool → Bool
  | _, [], [] => true
  | i, o :: l, k :: ks =>
    (o.after.toList.all fun e => !Region.binds .any e || Nat.blt e.on i) &&
    (match k with
     | true => l.all fun oj => oj.after.toList.any fun e => Region.binds .any e && Nat.ble i e.on
     | false => l.all fun oj => (oj.after.toList.any fun e => Region.binds .any e && Nat.beq e.on i) || o.apart ops oj) &&
    txtB ops (i + 1) l ks
  | _, _, _ => false

def upto (n i : Nat) : Array Bool := setAll (List.range i) (Array.replicate n false)
theorem upto_get (n i x : Nat) (d : Bool) (h : x < n) : (upto n i).getD x d = decide (x < i) := by
  unfold upto
  rw [setAll_get _ _ _ _ (by simpa using h)]
  simp [h]
theorem upto_succ (n i : Nat) : (upto n i).setIfInBounds i true = upto n (i + 1) := by
  unfold upto setAll
  rw [List.range_succ, List.foldl_append]
  rfl
theorem filter_only (n i : Nat) (p : Nat → Bool) (hi : i < n) (hp : ∀ j, j < n → (p j = true ↔ j = i)) : (List.range n).filter p = [i] := by
  have h1 : (List.range n).filter p = (List.range n).filter (fun j => j == i) := by
    apply List.filter_congr
    intro j hj
    have := hp j (by simpa using hj)
    cases hpj : p j with
    | true => simp [this.1 hpj]
    | false =>
      have : ¬ j = i := fun e => by rw [this.2 e] at hpj; cases hpj
      simp [this]
  rw [h1]
  clear h1 hp p
  induction n with
  | zero => omega
  | succ n ih =>
    rw [List.range_succ, List.filter_append]
    by_cases h : i < n
    · rw [ih h]
      have : ¬ n = i := by omega
      simp [this]
    · have : n = i := by omega
      subst this
      have : (List.range n).filter (fun j => j == n) = [] := by
        rw [List.filter_eq_nil_iff]
        intro j hj
        have := List.mem_range.1 hj
        simp; omega
      rw [this]
      simp

theorem sched_of_txt {l : List Oper} : ∀ (ks : List Bool) (m : List Oper) (i : Nat), l.drop i = m → txtB l.toArray i m ks = true → schedB .any l.toArray ((List.range' i m.length).zip ks) (upto l.length i) = true
  | [], [], i, hd, _ => by
    have hi : l.length ≤ i := List.drop_eq_nil_iff.1 hd
    show (Region.ready .any l.toArray (upto l.length i)).isEmpty = true
    rw [List.isEmpty_iff, List.eq_nil_iff_forall_not_mem]
    intro j hj
    obtain ⟨h0, o, ho, _⟩ := mem_ready.1 hj
    have hlt : j < l.length := by have := (Array.getElem?_eq_some_iff.1 ho).1; simpa using this
    rw [upto_get _ _ _ _ hlt] at h0
    simp at h0
    omega
  | [], _ :: _, _, _, h => by simp [txtB] at h
  | _ :: _, [], _, _, h => by simp [txtB] at h
  | k :: ks, o :: m, i, hd, h => by
    simp only [txtB, Bool.and_eq_true] at h
    have hi : i < l.length := by
      rcases Nat.lt_or_ge i l.length with h' | h'
      · exact h'
      · rw [List.drop_of_length_le h'] at hd; cases hd
    have hd' : l.drop (i + 1) = m := by
      have := congrArg List.tail hd
      simpa using this
    have hoi : l.toArray[i]? = some o := by
      have := congrArg (fun x : List Oper => x[0]?) hd
      simpa using this
    have hbehind : ∀ j oj, l.toArray[j]? = some oj → i < j → oj ∈ m := fun j oj hj hlt => by
      rw [← hd']
      have : (l.drop (i + 1))[j - (i + 1)]? = some oj := by
        rw [List.getElem?_drop, show i + 1 + (j - (i + 1)) = j from by omega]
        simpa using hj
      exact List.mem_of_getElem? this
    have hready : i ∈ Region.ready .any l.toArray (upto l.length i) := by
      refine mem_ready.2 ⟨by rw [upto_get _ _ _ _ hi]; simp, o, hoi, fun e he hb => ?_⟩
      have h1 := List.all_eq_true.1 h.1.1 e (by simpa using he)
      simp [hb] at h1
      have h2 : e.on < i := by simpa [Nat.blt] using h1
      rw [upto_get _ _ _ _ (by omega)]
      simpa using h2
    have hrest := sched_of_txt ks m (i + 1) hd' h.2
    rw [← upto_succ] at hrest
    rw [List.length_cons, List.range'_succ, List.zip_cons_cons]
    cases k with
    | false =>
      simp only [schedB, Bool.and_eq_true]
      refine ⟨⟨by simpa using hready, ?_⟩, hrest⟩
      unfold Region.free
      rw [hoi]
      simp only [List.all_eq_true, List.mem_range, Bool.or_eq_true, beq_iff_eq]
      intro j hj
      by_cases hji : j = i
      · exact .inl (.inl hji)
      · by_cases hlt : j < i
        · refine .inl (.inr ?_)
          rw [upto_get _ _ _ _ (by simpa using hj)]
          simpa using hlt
        · refine .inr ?_
          cases hoj : l.toArray[j]? with
          | none => rfl
          | some oj =>
            have h1 := List.all_eq_true.1 h.1.2 oj (hbehind j oj hoj (by omega))
            simp only [Bool.or_eq_true] at h1 ⊢
            rcases h1 with h1 | h1
            · refine .inl ?_
              obtain ⟨e, he, h2⟩ := List.any_eq_true.1 h1
              refine Array.any_eq_true'.2 ⟨e, by simpa using he, ?_⟩
              simp only [Bool.and_eq_true] at h2 ⊢
              exact ⟨h2.1, by have := Nat.eq_of_beq_eq_true h2.2; simpa using this⟩
            · exact .inr h1
    | true =>
      simp only [schedB, Bool.and_eq_true, beq_iff_eq]
      refine ⟨?_, hrest⟩
      have hsz : l.toArray.size = l.length := by simp
      unfold Region.ready
      rw [hsz]
      refine filter_only _ i _ hi fun j hj => ?_
      have hmem : (!(upto l.length i).getD j true && ((l.toArray[j]?).map (·.after.all fun e => !Region.binds .any e || (upto l.length i).getD e.on false)).getD false) = true ↔ j ∈ Region.ready .any l.toArray (upto l.length i) := by
        unfold Region.ready
        rw [List.mem_filter, List.mem_range, hsz]
        exact ⟨fun h => ⟨hj, h⟩, fun h => h.2⟩
      rw [hmem]
      constructor
      · intro hjr
        obtain ⟨h0, oj, hoj, hall⟩ := mem_ready.1 hjr
        rw [upto_get _ _ _ _ hj] at h0
        have hij : i ≤ j := by simpa using h0
        by_cases hji : j = i
        · exact hji
        · exfalso
          have h1 := List.all_eq_true.1 h.1.2 oj (hbehind j oj hoj (by omega))
          obtain ⟨e, he, h2⟩ := List.any_eq_true.1 h1
          simp only [Bool.and_eq_true] at h2
          have h3 := hall e (by simpa using he) h2.1
          have h4 : i ≤ e.on := by have := h2.2; simpa using this
          rcases Nat.lt_or_ge e.on l.length with h' | h'
          · rw [upto_get _ _ _ _ h'] at h3
            simp at h3
            omega
          · rw [Array.getD_eq_getD_getElem?, Array.getElem?_eq_none (by unfold upto; rw [setAll_size]; simpa using h')] at h3
            simp at h3
      · rintro rfl; exact hready

/-- ONE WALK IN THE TEXT's ORDER (true: loud). -/
theorem wp_region_text {id : Nat} {Q : Exit → Act → World → Prop} {a : Act} {w : World} {l : List Oper} (ks : List Bool) (hm : P.follows .mixedOrders = true) (hs : Region.noSelect l.toArray = true) (hn : (ks.length == l.length) = true)
    (hB : txtB l.toArray 0 l ks = true)
    (h : wpS P l.toArray (fun a' w' => Q .normal a' w') ((List.range' 0 ks.length).zip ks) a w.drew) : (Code.region id l.toArray true).wp P Q a w := by
  have e : ks.length = l.length := by simpa using hn
  rw [e] at h
  refine wp_region_sched ((List.range' 0 l.length).zip ks) hm hs (by simp [e]) ?_ h
  have := sched_of_txt ks l 0 rfl hB
  simpa [upto, setAll] using this
end
end Go.Proofs.Ytfefnkeognccpaa
