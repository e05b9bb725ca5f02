import Derived.Test.YtbcikndebaeahaaMAC
import Derived.Test.YtbcikndebaeahaaMAJ
import Derived.Test.YtbcikndebaeahaaMAL
import Derived.Test.YtbcikndebaeahaaMAP
namespace Go.Proofs.Ytbcikndebaeahaa
set_option linter.unusedVariables false
set_option maxRecDepth 4000
set_option linter.unusedSimpArgs false
/-! Bytes laid over others. -/
theorem seg_over (F : List UInt8) (o : Nat) (l : List UInt8) (h : o + l.length ≤ F.length) : seg (over F o l) o l.length = l := by
  unfold seg over
  have h1 : (F.take o).length = o := by simp; omega
  rw [List.append_assoc, List.drop_append_of_le_length (by omega), List.drop_of_length_le (by omega), List.nil_append, List.take_left]
theorem seg_over_else (F : List UInt8) (o : Nat) (l : List UInt8) (h : o + l.length ≤ F.length) (i n : Nat) (hi : i + n ≤ o ∨ o + l.length ≤ i) : seg (over F o l) i n = seg F i n := by
  apply List.ext_getElem?
  intro j
  unfold seg
  by_cases hj : j < n
  · rw [List.getElem?_take_of_lt hj, List.getElem?_take_of_lt hj, List.getElem?_drop, List.getElem?_drop, over_get F o l h, if_neg (by omega)]
  · rw [List.getElem?_take_eq_none (by omega), List.getElem?_take_eq_none (by omega)]
theorem over_comm (F A B : List UInt8) (i j : Nat) (hi : i + A.length ≤ F.length) (hj : j + B.length ≤ F.length) (h : i + A.length ≤ j ∨ j + B.length ≤ i) : over (over F i A) j B = over (over F j B) i A := by
  apply List.ext_getElem?
  intro k
  rw [over_get _ j B (by rw [over_length _ _ _ hi]; exact hj), over_get _ i A hi, over_get _ i A (by rw [over_length _ _ _ hj]; exact hi), over_get _ j B hj]
  by_cases c1 : j ≤ k ∧ k < j + B.length
  · rw [if_pos c1, if_neg (by omega), if_pos c1]
  · rw [if_neg c1, if_neg c1]
end Go.Proofs.Ytbcikndebaeahaa

namespace Go.Proofs.Ytbcikndebaeahaa
set_option linter.unusedVariables false
set_option maxRecDepth 20000
set_option linter.unusedSimpArgs false
/-! What media are, without memory. -/
def blk (F : List UInt8) (b : Nat) : List UInt8 := seg F (b * 64) 64
theorem app_cons (F : List UInt8) (d : Drt) (D : List Drt) : app F (d :: D) = app (over F (d.1.toNat * 64) d.2) D := rfl
theorem Fit.tail {n : Nat} {d : Drt} {D : List Drt} (h : Fit n (d :: D)) : Fit n D := fun x hx => h x (by simp [hx])
theorem Fit.head {n : Nat} {d : Drt} {D : List Drt} (h : Fit n (d :: D)) : d.2.length = 64 ∧ 0 ≤ d.1 ∧ d.1 < n := h d (by simp)
theorem Fit.filter {n : Nat} {D : List Drt} (h : Fit n D) (p : Drt → Bool) : Fit n (D.filter p) := fun d hd => h d (List.mem_filter.1 hd).1
theorem Fit.in {n : Nat} {d : Drt} {F : List UInt8} (h : d.2.length = 64 ∧ 0 ≤ d.1 ∧ d.1 < n) (hF : F.length = n * 64) : d.1.toNat * 64 + d.2.length ≤ F.length := by omega
theorem over_len {n : Nat} {d : Drt} {F : List UInt8} (h : d.2.length = 64 ∧ 0 ≤ d.1 ∧ d.1 < n) (hF : F.length = n * 64) : (over F (d.1.toNat * 64) d.2).length = n * 64 := by rw [over_length _ _ _ (Fit.in h hF), hF]
theorem app_over {n : Nat} {d : Drt} (hd : d.2.length = 64 ∧ 0 ≤ d.1 ∧ d.1 < n) : ∀ (E : List Drt) (F : List UInt8), F.length = n * 64 → Fit n E → (∀ e ∈ E, e.1 ≠ d.1) → app (over F (d.1.toNat * 64) d.2) E = over (app F E) (d.1.toNat * 64) d.2
  | [], F, _, _, _ => rfl
  | e :: E, F, hF, hE, hne => by
    have he := hE.head
    have h1 := hne e (by simp)
    rw [app_cons, app_cons, over_comm F d.2 e.2 _ _ (Fit.in hd hF) (Fit.in he hF) (by omega)]
    exact app_over hd E _ (over_len he hF) hE.tail (fun x hx => hne x (by simp [hx]))
theorem app_split {n : Nat} (p : Drt → Bool) (hp : ∀ d e : Drt, d.1 = e.1 → p d = p e) : ∀ (D : List Drt) (F : List UInt8), F.length = n * 64 → Fit n D → app (app F (D.filter p)) (D.filter fun d => !p d) = app F D
  | [], F, _, _ => rfl
  | d :: D, F, hF, hD => by
    have hd := hD.head
    have hl := over_len hd hF
    cases hpd : p d with
    | true =>
      have h1 : (d :: D).filter p = d :: D.filter p := by simp [hpd]
      have h2 : (d :: D).filter (fun d => !p d) = D.filter fun d => !p d := by simp [hpd]
      rw [h1, h2, app_cons, app_cons]
      exact app_split p hp D _ hl hD.tail
    | false =>
      have h1 : (d :: D).filter p = D.filter p := by simp [hpd]
      have h2 : (d :: D).filter (fun d => !p d) = d :: D.filter fun d => !p d := by simp [hpd]
      rw [h1, h2, app_cons, app_cons, ← app_over hd _ _ hF (hD.tail.filter p) (fun e he h => by
        have := (List.mem_filter.1 he).2
        rw [hp e d h, hpd] at this
        cases this)]
      exact app_split p hp D _ hl hD.tail
theorem blk_over {n : Nat} {d : Drt} {F : List UInt8} (hd : d.2.length = 64 ∧ 0 ≤ d.1 ∧ d.1 < n) (hF : F.length = n * 64) (b : Nat) : blk (over F (d.1.toNat * 64) d.2) b = if d.1 = b then d.2 else blk F b := by
  unfold blk
  by_cases h : d.1 = b
  · rw [if_pos h]
    have := seg_over F (d.1.toNat * 64) d.2 (Fit.in hd hF)
    rw [hd.1] at this
    rw [show b = d.1.toNat from by omega]
    exact this
  · rw [if_neg h]
    exact seg_over_else _ _ _ (Fit.in hd hF) _ _ (by omega)
theorem blk_app {n : Nat} (b : Nat) : ∀ (D : List Drt) (F : List UInt8), F.length = n * 64 → Fit n D → blk (app F D) b = blk F b ∨ ∃ d ∈ D, d.1 = b ∧ blk (app F D) b = d.2
  | [], F, _, _ => .inl rfl
  | d :: D, F, hF, hD => by
    have hd := hD.head
    rw [app_cons]
    rcases blk_app b D _ (over_len hd hF) hD.tail with h | ⟨e, he, h1, h2⟩
    · rw [h, blk_over hd hF b]
      by_cases hb : d.1 = b
      · exact .inr ⟨d, by simp, hb, by rw [if_pos hb]⟩
      · rw [if_neg hb]; exact .inl rfl
    · exact .inr ⟨e, by simp [he], h1, h2⟩
theorem blk_app_else {n : Nat} (b : Nat) (D : List Drt) (F : List UInt8) (hF : F.length = n * 64) (hD : Fit n D) (hne : ∀ d ∈ D, d.1 ≠ (b : Int)) : blk (app F D) b = blk F b := by
  rcases blk_app b D F hF hD with h | ⟨d, hd, h1, _⟩
  · exact h
  · exact absurd h1 (hne d hd)
theorem right_iff (n : Nat) (D : List Drt) : rightB n D = true ↔ n ≤ 64 ∧ D.length ≤ 64 ∧ ∀ d ∈ D, 0 ≤ d.1 ∧ d.1 < n := by simp [rightB]
theorem right_filter {n : Nat} {D : List Drt} (h : rightB n D = true) (p : Drt → Bool) : rightB n (D.filter p) = true := by
  rw [right_iff] at *
  exact ⟨h.1, Nat.le_trans (List.length_filter_le _ _) h.2.1, fun d hd => h.2.2 d (List.mem_filter.1 hd).1⟩
theorem inR_all {n : Nat} {D : List Drt} (h : Fit n D) : D.filter (inR 0 (n : Int)) = D ∧ D.filter (fun d => !inR 0 (n : Int) d) = [] := by
  constructor
  · rw [List.filter_eq_self]
    intro d hd
    have := h d hd
    simp [inR]; omega
  · rw [List.filter_eq_nil_iff]
    intro d hd
    have := h d hd
    simp [inR]; omega
end Go.Proofs.Ytbcikndebaeahaa

namespace Go.Proofs.Ytbcikndebaeahaa
open Go.ChangeShapes Go.WideShapes Go.ChangeAt Go.RowKit
set_option linter.unusedVariables false
set_option maxRecDepth 4000
set_option linter.unusedSimpArgs false
/-! What is put is shown. -/
theorem put_shows {n : Nat} {F : List UInt8} {D : List Drt} (k : Nat) (X : List UInt8) (th : Bool) (h : rightB n D = true) (ho : Ok D) (hF : F.length = n * 64) (hk : k < n) (hX : X.length = 64) :
    rightB n (wrD n D k X th) = true ∧ seg (app (wrF n F D k X th) (wrD n D k X th)) (k * 64) 64 = X := by
  have hf := fit_of_right h ho
  have e : wrE n D k = 0 := by simp only [wrE, h, if_true]; rw [if_pos (by omega)]
  have hd : ((k : Int), X).2.length = 64 ∧ 0 ≤ ((k : Int), X).1 ∧ ((k : Int), X).1 < n := ⟨hX, by simp, by simpa using hk⟩
  cases th with
  | true =>
    have hl := app_length n _ F hF (hf.filter (inR k (k + 1)))
    have hl2 := over_len hd hl
    have eF : wrF n F D k X true = over (app F (D.filter (inR k (k + 1)))) (((k : Int), X).1.toNat * 64) X := by simp [wrF, e]
    have eD : wrD n D k X true = D.filter fun d => !inR k (k + 1) d := by simp [wrD, e]
    refine ⟨by rw [eD]; exact right_filter h _, ?_⟩
    have hb := blk_app_else k (D.filter fun d => !inR k (k + 1) d) _ hl2 (hf.filter _) (fun d hd => ?_)
    · rw [eF, eD]
      show blk _ k = X
      rw [hb, blk_over hd hl k, if_pos rfl]
    · have := (List.mem_filter.1 hd).2
      simp [inR] at this
      intro h; omega
  | false =>
    have hr := (right_iff n D).1 h
    by_cases h64 : D.length = 64
    · have eF : wrF n F D k X false = app F D := by simp [wrF, e, h64, (inR_all hf).1]
      have eD : wrD n D k X false = [((k : Int), X)] := by simp [wrD, e, h64, (inR_all hf).2]
      refine ⟨?_, ?_⟩
      · rw [eD, right_iff]
        refine ⟨hr.1, by simp, fun d hd => ?_⟩
        simp at hd
        subst hd
        exact ⟨by simp, by simpa using hk⟩
      · rw [eF, eD]
        show blk (over (app F D) (((k : Int), X).1.toNat * 64) X) k = X
        rw [blk_over hd (app_length n D F hF hf) k, if_pos rfl]
    · have eF : wrF n F D k X false = F := by simp [wrF, e, h64]
      have eD : wrD n D k X false = D ++ [((k : Int), X)] := by simp [wrD, e, h64]
      refine ⟨?_, ?_⟩
      · rw [eD, right_iff]
        refine ⟨hr.1, by simp; omega, fun d hd => ?_⟩
        rcases List.mem_append.1 hd with hd | hd
        · exact hr.2.2 d hd
        · simp at hd
          subst hd
          exact ⟨by simp, by simpa using hk⟩
      · rw [eF, eD, app_snoc]
        show blk (over (app F D) (((k : Int), X).1.toNat * 64) X) k = X
        rw [blk_over hd (app_length n D F hF hf) k, if_pos rfl]
end Go.Proofs.Ytbcikndebaeahaa

namespace Go.Proofs.Ytbcikndebaeahaa
open Go.ChangeShapes Go.WideShapes Go.ChangeAt Go.RowKit
set_option linter.unusedVariables false
set_option maxRecDepth 4000
set_option linter.unusedSimpArgs false
/-! What blksT leaves: each whole block that came lies in its place, all others stay. -/
theorem wr_over {n : Nat} {F : List UInt8} {D : List Drt} (k : Nat) (X : List UInt8) (th : Bool) (h : rightB n D = true) (ho : Ok D) (hF : F.length = n * 64) (hk : k < n) (hX : X.length = 64) :
    app (wrF n F D k X th) (wrD n D k X th) = over (app F D) (k * 64) X := by
  have hf := fit_of_right h ho
  have e : wrE n D k = 0 := by simp only [wrE, h, if_true]; rw [if_pos (by omega)]
  have hd : ((k : Int), X).2.length = 64 ∧ 0 ≤ ((k : Int), X).1 ∧ ((k : Int), X).1 < n := ⟨hX, by simp, by simpa using hk⟩
  cases th with
  | true =>
    have eF : wrF n F D k X true = over (app F (D.filter (inR k (k + 1)))) (((k : Int), X).1.toNat * 64) X := by simp [wrF, e]
    have eD : wrD n D k X true = D.filter fun d => !inR k (k + 1) d := by simp [wrD, e]
    rw [eF, eD]
    have h1 := app_over hd (D.filter fun d => !inR k (k + 1) d) (app F (D.filter (inR k (k + 1)))) (app_length n _ F hF (hf.filter _)) (hf.filter _) (fun d hd' => by
      have := (List.mem_filter.1 hd').2
      simp [inR] at this
      intro h; simp only at h; omega)
    have h2 := app_split (n := n) (inR k (k + 1)) (fun d e h => by simp [inR, h]) D F hF hf
    rw [h2] at h1
    exact h1
  | false =>
    by_cases h64 : D.length = 64
    · have eF : wrF n F D k X false = app F D := by simp [wrF, e, h64, (inR_all hf).1]
      have eD : wrD n D k X false = [((k : Int), X)] := by simp [wrD, e, h64, (inR_all hf).2]
      rw [eF, eD]
      rfl
    · have eF : wrF n F D k X false = F := by simp [wrF, e, h64]
      have eD : wrD n D k X false = D ++ [((k : Int), X)] := by simp [wrD, e, h64]
      rw [eF, eD, app_snoc]
      rfl
theorem wr_len {n : Nat} {F : List UInt8} {D : List Drt} (k : Nat) (X : List UInt8) (th : Bool) (h : rightB n D = true) (ho : Ok D) (hF : F.length = n * 64) (hk : k < n) (hX : X.length = 64) : (wrF n F D k X th).length = n * 64 := by
  have hf := fit_of_right h ho
  have e : wrE n D k = 0 := by simp only [wrE, h, if_true]; rw [if_pos (by omega)]
  unfold wrF
  rw [if_pos e]
  split
  · have hl := app_length n _ F hF (hf.filter (inR (k : Int) ((k : Int) + 1)))
    rw [over_length _ _ _ (by rw [hl, hX]; simp; omega), hl]
  · split
    · exact app_length n _ F hF (hf.filter _)
    · exact hF
theorem wr_ok {n : Nat} {D : List Drt} (k : Nat) (X : List UInt8) (th : Bool) (ho : Ok D) (hk : k ≤ 1000) (hX : X.length = 64) : Ok (wrD n D k X th) := by
  have hx : ((k : Int), X).2.length = 64 ∧ -9223372036854775808 ≤ ((k : Int), X).1 ∧ ((k : Int), X).1 ≤ 9223372036854775807 := ⟨hX, by simp only; omega, by simp only; omega⟩
  unfold wrD
  split
  · split
    · exact fun d hd => ho d (List.mem_filter.1 hd).1
    · intro d hd
      rcases List.mem_append.1 hd with hd | hd
      · split at hd
        · exact ho d (List.mem_filter.1 hd).1
        · exact ho d hd
      · simp at hd
        subst hd
        exact hx
  · intro d hd; cases hd
theorem blks_bad (n : Nat) (p r cc : Bool) (c : Cmd) : ∀ (q : Nat) (F : List UInt8) (D : List Drt) (S : Sns) (i : Nat) (L : List UInt8), S ≠ (0, 0, 0) → blksT n p r cc c q F D S i L = (F, D, S) := by
  intro q
  induction q with
  | zero => intros; rfl
  | succ q ih =>
    intro F D S i L h
    have e1 : blkF n F D p r cc c S i (L.take 64) = F := by unfold blkF; rw [if_pos (Or.inl h)]
    have e2 : blkD n F D p r cc c S i (L.take 64) = D := by unfold blkD; rw [if_pos (Or.inl h)]
    have e3 : blkS n F D p r cc c S i (L.take 64) = S := by unfold blkS; rw [if_pos h]
    simp only [blksT]
    rw [e1, e2, e3]
    exact ih _ _ _ _ _ h
theorem blk_put {n : Nat} {F : List UInt8} {D : List Drt} {p r cc : Bool} {c : Cmd} {i : Nat} {X : List UInt8} (hc : classI c.1 ≠ 3) :
    blkS n F D p r cc c (0, 0, 0) i X = putS n D p r (atJ c.2.1 i) ∧ blkF n F D p r cc c (0, 0, 0) i X = ptF n F D (putS n D p r (atJ c.2.1 i)) (atJ c.2.1 i) X (thJ c cc) ∧ blkD n F D p r cc c (0, 0, 0) i X = ptD n D (putS n D p r (atJ c.2.1 i)) (atJ c.2.1 i) X (thJ c cc) := by
  refine ⟨?_, ?_, ?_⟩
  · unfold blkS; rw [if_neg (by simp), if_neg hc]
  · unfold blkF; rw [if_neg (by simp [hc])]
  · unfold blkD; rw [if_neg (by simp [hc])]
theorem put_bad {n : Nat} {F : List UInt8} {D : List Drt} {S : Sns} {at_ : Int} {X : List UInt8} {th : Bool} (h : S ≠ (0, 0, 0)) : ptF n F D S at_ X th = F ∧ ptD n D S at_ X th = D := by
  have hb : (S == (0, 0, 0)) = false := beq_eq_false_iff_ne.2 h
  unfold ptF ptD
  rw [hb]
  exact ⟨rfl, rfl⟩
theorem put_good {n : Nat} {F : List UInt8} {D : List Drt} {at_ : Int} {X : List UInt8} {th : Bool} : ptF n F D (0, 0, 0) at_ X th = wrF n F D at_ X th ∧ ptD n D (0, 0, 0) at_ X th = wrD n D at_ X th := ⟨rfl, rfl⟩
theorem putS_in {n : Nat} {D : List Drt} {z : Nat} (h : rightB n D = true) (hz : z < n) : putS n D true false (z : Int) = (0, 0, 0) := by
  unfold putS
  rw [if_neg (by omega), Int.toNat_natCast]
  unfold checkS
  have : withinB (allN n D) z 1 = true := by simp only [withinB, decide_eq_true_eq, allN, h, if_true]; omega
  simp [this]
theorem putS_out {n : Nat} {D : List Drt} {p r : Bool} {z : Nat} (h : n ≤ z ∨ p = false ∨ r = true) : putS n D p r (z : Int) ≠ (0, 0, 0) := by
  intro hs
  unfold putS at hs
  rw [if_neg (by omega), Int.toNat_natCast] at hs
  have hc := checkS_zero hs
  rcases h with h | h | h
  · have := hc.2.2
    have h3 : allN n D ≤ n := by unfold allN; split <;> omega
    simp only [withinB, decide_eq_true_eq] at this
    omega
  · rw [h] at hc; cases hc.1
  · rw [h] at hc; cases hc.2.1
theorem atJ_in {a i n : Nat} (h : a + i < n) (hn : n ≤ 64) : atJ a i = a + i := by
  unfold atJ
  have : (a + i) % 18446744073709551616 = a + i := Nat.mod_eq_of_lt (by omega)
  simp only [this]
  rw [if_neg (by omega)]
theorem atJ_out {a i n : Nat} (h : n ≤ a + i) (hn : n ≤ 64) (ha : a ≤ 18446744073709551615) (hi : i ≤ 1000) : n ≤ atJ a i := by
  unfold atJ
  simp only
  split
  · omega
  · rename_i hh
    by_cases h2 : a + i < 18446744073709551616
    · rw [Nat.mod_eq_of_lt h2]; exact h
    · exfalso
      have : (a + i) % 18446744073709551616 = a + i - 18446744073709551616 := by omega
      omega
/-- the unit may not be written: nothing changes -/
theorem blks_shut (n : Nat) (p r cc : Bool) (c : Cmd) (hc : classI c.1 ≠ 3) (q : Nat) (F : List UInt8) (D : List Drt) (i : Nat) (L : List UInt8) (h : p = false ∨ r = true) : (blksT n p r cc c q F D (0, 0, 0) i L).1 = F ∧ (blksT n p r cc c q F D (0, 0, 0) i L).2.1 = D := by
  cases q with
  | zero => exact ⟨rfl, rfl⟩
  | succ q =>
    obtain ⟨e1, e2, e3⟩ := blk_put (n := n) (F := F) (D := D) (p := p) (r := r) (cc := cc) (i := i) (X := L.take 64) hc
    have hb : putS n D p r (atJ c.2.1 i) ≠ (0, 0, 0) := putS_out (Or.inr h)
    have hpb := put_bad (n := n) (F := F) (D := D) (at_ := (atJ c.2.1 i : Int)) (X := L.take 64) (th := thJ c cc) hb
    simp only [blksT]
    rw [e1, e2, e3, hpb.1, hpb.2, blks_bad _ _ _ _ _ _ _ _ _ _ _ hb]
    exact ⟨rfl, rfl⟩
theorem blks_show (n : Nat) (cc : Bool) (c : Cmd) (hc : classI c.1 ≠ 3) (ha : c.2.1 ≤ 18446744073709551615) : ∀ (q : Nat) (F : List UInt8) (D : List Drt) (i : Nat) (L : List UInt8), rightB n D = true → Ok D → F.length = n * 64 → 64 * q ≤ L.length → i + q ≤ 1000 →
    rightB n (blksT n true false cc c q F D (0, 0, 0) i L).2.1 = true ∧ (app (blksT n true false cc c q F D (0, 0, 0) i L).1 (blksT n true false cc c q F D (0, 0, 0) i L).2.1).length = n * 64 ∧
    ∀ x, x < n * 64 → (app (blksT n true false cc c q F D (0, 0, 0) i L).1 (blksT n true false cc c q F D (0, 0, 0) i L).2.1)[x]? = if 64 * (c.2.1 + i) ≤ x ∧ x < 64 * (c.2.1 + i + q) then L[x - 64 * (c.2.1 + i)]? else (app F D)[x]? := by
  intro q
  induction q with
  | zero =>
    intro F D i L hr ho hF hL hi
    refine ⟨hr, app_length n D F hF (fit_of_right hr ho), fun x hx => ?_⟩
    rw [if_neg (by omega)]
    rfl
  | succ q ih =>
    intro F D i L hr ho hF hL hi
    have hn := ((right_iff n D).1 hr).1
    obtain ⟨e1, e2, e3⟩ := blk_put (n := n) (F := F) (D := D) (p := true) (r := false) (cc := cc) (i := i) (X := L.take 64) hc
    simp only [blksT]
    rw [e1, e2, e3]
    by_cases hin : c.2.1 + i < n
    · have hpg := put_good (n := n) (F := F) (D := D) (at_ := ((c.2.1 + i : Nat) : Int)) (X := L.take 64) (th := thJ c cc)
      rw [atJ_in hin hn, putS_in hr hin, hpg.1, hpg.2]
      have hX : (L.take 64).length = 64 := by rw [List.length_take]; omega
      have hw := wr_over (c.2.1 + i) (L.take 64) (thJ c cc) hr ho hF hin hX
      obtain ⟨i1, i2, i3⟩ := ih (wrF n F D ((c.2.1 + i : Nat) : Int) (L.take 64) (thJ c cc)) (wrD n D ((c.2.1 + i : Nat) : Int) (L.take 64) (thJ c cc)) (i + 1) (L.drop 64) (put_shows _ _ _ hr ho hF hin hX).1 (wr_ok _ _ _ ho (by omega) hX) (wr_len _ _ _ hr ho hF hin hX) (by rw [List.length_drop]; omega) (by omega)
      refine ⟨i1, i2, fun x hx => ?_⟩
      rw [i3 x hx, hw, List.getElem?_drop]
      have hl := app_length n D F hF (fit_of_right hr ho)
      rw [over_get _ _ _ (by rw [hl, hX]; omega), hX]
      by_cases c1 : 64 * (c.2.1 + (i + 1)) ≤ x ∧ x < 64 * (c.2.1 + (i + 1) + q)
      · rw [if_pos c1, if_pos (by omega), show 64 + (x - 64 * (c.2.1 + (i + 1))) = x - 64 * (c.2.1 + i) by omega]
      · rw [if_neg c1]
        by_cases c2 : (c.2.1 + i) * 64 ≤ x ∧ x < (c.2.1 + i) * 64 + 64
        · rw [if_pos c2, if_pos (by omega), List.getElem?_take_of_lt (by omega), show x - (c.2.1 + i) * 64 = x - 64 * (c.2.1 + i) by omega]
        · rw [if_neg c2, if_neg (by omega)]
    · have hb : putS n D true false (atJ c.2.1 i) ≠ (0, 0, 0) := putS_out (Or.inl (atJ_out (by omega) hn ha (by omega)))
      have hpb := put_bad (n := n) (F := F) (D := D) (at_ := (atJ c.2.1 i : Int)) (X := L.take 64) (th := thJ c cc) hb
      rw [hpb.1, hpb.2, blks_bad _ _ _ _ _ _ _ _ _ _ _ hb]
      refine ⟨hr, app_length n D F hF (fit_of_right hr ho), fun x hx => ?_⟩
      rw [if_neg (by omega)]
/-- a Write's job that nothing was taken of: what Take leaves -/
theorem take_show {n : Nat} {F : List UInt8} {D : List Drt} (p r cc : Bool) {c : Cmd} {len : Int} {B : List UInt8} (h42 : c.1 = 42) (hs : startL c = some len) (hl : 0 ≤ len) (ha : c.2.1 ≤ 18446744073709551615) (hr : rightB n D = true) (ho : Ok D) (hF : F.length = n * 64) (hB : B.length ≤ 3000) :
    rightB n (tkR n F D p r cc c len 0 [] (0, 0, 0) B).1.2.1 = true ∧ (app (tkR n F D p r cc c len 0 [] (0, 0, 0) B).1.1 (tkR n F D p r cc c len 0 [] (0, 0, 0) B).1.2.1).length = n * 64 ∧
    (∀ x, x < n * 64 → (app (tkR n F D p r cc c len 0 [] (0, 0, 0) B).1.1 (tkR n F D p r cc c len 0 [] (0, 0, 0) B).1.2.1)[x]? = if p = true ∧ r = false ∧ 64 * c.2.1 ≤ x ∧ x < 64 * (c.2.1 + tkN len 0 B.length / 64) then B[x - 64 * c.2.1]? else (app F D)[x]?) ∧
    (tkR n F D p r cc c len 0 [] (0, 0, 0) B).2.1 = (tkN len 0 B.length : Int) := by
  have hM : ¬ modeOp c.1 = true := by rw [h42]; decide
  have hcl : classI c.1 ≠ 3 := by rw [h42]; decide
  have hR : rightJ c len 0 ([] : List UInt8).length = true := rightJ_of hs (by omega) hl (by rw [if_neg hM]; rfl)
  have hN := tkN_le len 0 B.length
  have hX := tkR_blks (n := n) (F := F) (D := D) (p := p) (r := r) (cc := cc) (S := (0, 0, 0)) (B := B) (L := B.take (tkN len 0 B.length)) hR hM (by simp)
  have hLl : (B.take (tkN len 0 B.length)).length = tkN len 0 B.length := by rw [List.length_take]; omega
  rw [hX, hLl]
  dsimp only
  generalize tkN len 0 B.length = N at *
  have e0 : ((0 : Int) / 64).toNat = 0 := by decide
  rw [e0]
  by_cases hp : p = true ∧ r = false
  · obtain ⟨rfl, rfl⟩ := hp
    obtain ⟨i1, i2, i3⟩ := blks_show n cc c hcl ha (N / 64) F D 0 (B.take N) hr ho hF (by rw [hLl]; omega) (by omega)
    refine ⟨i1, i2, fun x hx => ?_, by omega⟩
    rw [i3 x hx, Nat.add_zero]
    by_cases hc : 64 * c.2.1 ≤ x ∧ x < 64 * (c.2.1 + N / 64)
    · rw [if_pos hc, if_pos ⟨rfl, rfl, hc⟩, List.getElem?_take_of_lt (by omega)]
    · rw [if_neg hc, if_neg (fun h => hc h.2.2)]
  · have hh : p = false ∨ r = true := by cases p <;> cases r <;> simp_all
    obtain ⟨i1, i2⟩ := blks_shut n p r cc c hcl (N / 64) F D 0 (B.take N) hh
    rw [i1, i2]
    refine ⟨hr, app_length n D F hF (fit_of_right hr ho), fun x hx => ?_, by omega⟩
    rw [if_neg (fun h => hp ⟨h.1, h.2.1⟩)]
/-- too few bytes: it doesn't end well -/
theorem fin_few {cc : Bool} {c : Cmd} {len took : Int} {R : List UInt8} {S : Sns} (h : took < len) : (finR cc c len took R S).2 ≠ (0, 0, 0) := by
  unfold finR
  by_cases h1 : rightJ c len took R.length = false
  · rw [if_pos h1]; simp
  · rw [if_neg h1]
    by_cases h2 : S ≠ (0, 0, 0)
    · rw [if_pos h2]; exact h2
    · rw [if_neg h2, if_pos h]; simp
end Go.Proofs.Ytbcikndebaeahaa
