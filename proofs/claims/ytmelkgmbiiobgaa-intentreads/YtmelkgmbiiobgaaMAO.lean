import Derived.Test.YtmelkgmbiiobgaaMAJ
import Derived.Test.YtmelkgmbiiobgaaMAB
import Derived.Test.YtmelkgmbiiobgaaMAG
import Derived.Test.YtmelkgmbiiobgaaWL11B
namespace Go.Proofs.Ytmelkgmbiiobgaa
open Go.ChangeShapes Go.WideShapes Go.ChangeAt Go.RowKit
set_option linter.unusedVariables false
set_option maxRecDepth 4000
set_option linter.unusedSimpArgs false
/-! What a slot shows behind the button. -/
theorem app_nil5 (F : List UInt8) : app F [] = F := rfl
theorem right_nil5 {n : Nat} {D : List Drt} (h : rightB n D = true) : rightB n [] = true := by
  simp only [rightB, decide_eq_true_eq] at h ⊢
  exact ⟨h.1, by simp, fun d hd => by cases hd⟩
theorem all_bt {n : Nat} {F : List UInt8} {D : List Drt} (p l : Bool) (h : rightB n D = true) : allF n (btF p l n F D) (btD p l n D) = app F D ∧ allN n (btD p l n D) = n := by
  unfold btF btD
  split
  · simp only [syncF, syncD, h, if_true, allF, allN, right_nil5 h, app_nil5]
    exact ⟨trivial, trivial⟩
  · simp only [allF, allN, h, if_true]
    exact ⟨trivial, trivial⟩
end Go.Proofs.Ytmelkgmbiiobgaa

namespace Go.Proofs.Ytmelkgmbiiobgaa
set_option linter.unusedVariables false
set_option maxRecDepth 4000
set_option linter.unusedSimpArgs false
/-! Bytes laid over others. -/
theorem over_comm (F A B : List UInt8) (i j : Nat) (hi : i + A.length ≤ F.length) (hj : j + B.length ≤ F.length) (h : i + A.length ≤ j ∨ j + B.length ≤ i) : over (over F i A) j B = over (over F j B) i A := by
  apply List.ext_getElem?
  intro k
  rw [over_get _ j B (by rw [over_length _ _ _ hi]; exact hj), over_get _ i A hi, over_get _ i A (by rw [over_length _ _ _ hj]; exact hi), over_get _ j B hj]
  by_cases c1 : j ≤ k ∧ k < j + B.length
  · rw [if_pos c1, if_neg (by omega), if_pos c1]
  · rw [if_neg c1, if_neg c1]
end Go.Proofs.Ytmelkgmbiiobgaa

namespace Go.Proofs.Ytmelkgmbiiobgaa
set_option linter.unusedVariables false
set_option maxRecDepth 20000
set_option linter.unusedSimpArgs false
/-! What media are, without memory. -/
theorem app_cons (F : List UInt8) (d : Drt) (D : List Drt) : app F (d :: D) = app (over F (d.1.toNat * 64) d.2) D := rfl
theorem Fit.tail {n : Nat} {d : Drt} {D : List Drt} (h : Fit n (d :: D)) : Fit n D := fun x hx => h x (by simp [hx])
theorem Fit.head {n : Nat} {d : Drt} {D : List Drt} (h : Fit n (d :: D)) : d.2.length = 64 ∧ 0 ≤ d.1 ∧ d.1 < n := h d (by simp)
theorem Fit.filter {n : Nat} {D : List Drt} (h : Fit n D) (p : Drt → Bool) : Fit n (D.filter p) := fun d hd => h d (List.mem_filter.1 hd).1
theorem Fit.in {n : Nat} {d : Drt} {F : List UInt8} (h : d.2.length = 64 ∧ 0 ≤ d.1 ∧ d.1 < n) (hF : F.length = n * 64) : d.1.toNat * 64 + d.2.length ≤ F.length := by omega
theorem over_len {n : Nat} {d : Drt} {F : List UInt8} (h : d.2.length = 64 ∧ 0 ≤ d.1 ∧ d.1 < n) (hF : F.length = n * 64) : (over F (d.1.toNat * 64) d.2).length = n * 64 := by rw [over_length _ _ _ (Fit.in h hF), hF]
theorem app_over {n : Nat} {d : Drt} (hd : d.2.length = 64 ∧ 0 ≤ d.1 ∧ d.1 < n) : ∀ (E : List Drt) (F : List UInt8), F.length = n * 64 → Fit n E → (∀ e ∈ E, e.1 ≠ d.1) → app (over F (d.1.toNat * 64) d.2) E = over (app F E) (d.1.toNat * 64) d.2
  | [], F, _, _, _ => rfl
  | e :: E, F, hF, hE, hne => by
    have he := hE.head
    have h1 := hne e (by simp)
    rw [app_cons, app_cons, over_comm F d.2 e.2 _ _ (Fit.in hd hF) (Fit.in he hF) (by omega)]
    exact app_over hd E _ (over_len he hF) hE.tail (fun x hx => hne x (by simp [hx]))
theorem app_split {n : Nat} (p : Drt → Bool) (hp : ∀ d e : Drt, d.1 = e.1 → p d = p e) : ∀ (D : List Drt) (F : List UInt8), F.length = n * 64 → Fit n D → app (app F (D.filter p)) (D.filter fun d => !p d) = app F D
  | [], F, _, _ => rfl
  | d :: D, F, hF, hD => by
    have hd := hD.head
    have hl := over_len hd hF
    cases hpd : p d with
    | true =>
      have h1 : (d :: D).filter p = d :: D.filter p := by simp [hpd]
      have h2 : (d :: D).filter (fun d => !p d) = D.filter fun d => !p d := by simp [hpd]
      rw [h1, h2, app_cons, app_cons]
      exact app_split p hp D _ hl hD.tail
    | false =>
      have h1 : (d :: D).filter p = D.filter p := by simp [hpd]
      have h2 : (d :: D).filter (fun d => !p d) = d :: D.filter fun d => !p d := by simp [hpd]
      rw [h1, h2, app_cons, app_cons, ← app_over hd _ _ hF (hD.tail.filter p) (fun e he h => by
        have := (List.mem_filter.1 he).2
        rw [hp e d h, hpd] at this
        cases this)]
      exact app_split p hp D _ hl hD.tail
theorem inR_all {n : Nat} {D : List Drt} (h : Fit n D) : D.filter (inR 0 (n : Int)) = D ∧ D.filter (fun d => !inR 0 (n : Int) d) = [] := by
  constructor
  · rw [List.filter_eq_self]
    intro d hd
    have := h d hd
    simp [inR]; omega
  · rw [List.filter_eq_nil_iff]
    intro d hd
    have := h d hd
    simp [inR]; omega
theorem flush0 {n : Nat} {F : List UInt8} {D : List Drt} (h : rightB n D = true) (ho : Ok D) : flushE n D 0 0 = 0 ∧ flushN n D 0 0 = n ∧ flushF n F D 0 0 = app F D ∧ flushD n D 0 0 = [] := by
  have hf := fit_of_right h ho
  have e : flushE n D 0 0 = 0 := by simp [flushE, h, flushOk]
  have ht : flushTo n 0 0 = n := by simp [flushTo]
  refine ⟨e, by simp [flushN, e], ?_, ?_⟩
  · rw [flushF, if_pos e, ht, (inR_all hf).1]
  · rw [flushD, if_pos e, ht, (inR_all hf).2]
end Go.Proofs.Ytmelkgmbiiobgaa

namespace Go.Proofs.Ytmelkgmbiiobgaa
open Go.ChangeShapes Go.WideShapes Go.ChangeAt Go.RowKit
set_option linter.unusedVariables false
set_option maxRecDepth 4000
set_option linter.unusedSimpArgs false
/-! To begin a command changes nothing of what is shown. -/
def Shows (n : Nat) (F : List UInt8) (D : List Drt) (p l : Bool) (U : Utt) : Prop := allF n U.1 U.2.1 = app F D ∧ allN n U.2.1 = n ∧ (l = true → p = true → U.2.2.1 = true)
theorem shows_same {n : Nat} {F : List UInt8} {D : List Drt} (p l : Bool) (h : rightB n D = true) : allF n F D = app F D ∧ allN n D = n := by
  simp only [allF, allN, h, if_true]
  exact ⟨trivial, trivial⟩
theorem shows_bt {n : Nat} {F : List UInt8} {D : List Drt} (p l : Bool) (h : rightB n D = true) : allF n (btF p l n F D) (btD p l n D) = app F D ∧ allN n (btD p l n D) = n := all_bt p l h
theorem right_filter11 {n : Nat} {D : List Drt} (q : Drt → Bool) (h : rightB n D = true) : rightB n (D.filter q) = true := by
  simp only [rightB, decide_eq_true_eq] at h ⊢
  exact ⟨h.1, Nat.le_trans (List.length_filter_le _ _) h.2.1, fun d hd => h.2.2 d (List.mem_filter.1 hd).1⟩
theorem check_in {n : Nat} {D : List Drt} {p r wr : Bool} {A : Nat} {m : Int} (h : checkS n D p r A m wr = (0, 0, 0)) (hr : rightB n D = true) : 0 ≤ m ∧ m ≤ n ∧ (A : Int) ≤ n - m := by
  have h1 := (checkS_zero h).2.2
  simp only [withinB, decide_eq_true_eq, allN, hr, if_true] at h1
  exact h1
theorem flush_ok {n : Nat} {D : List Drt} {A : Nat} {m : Int} (hr : rightB n D = true) (h : 0 ≤ m ∧ m ≤ n ∧ (A : Int) ≤ n - m) : flushE n D A m = 0 := by
  have h2 : flushOk n A m = true := by simp only [flushOk, decide_eq_true_eq]; omega
  simp [flushE, hr, h2]
theorem shows_flush {n : Nat} {F : List UInt8} {D : List Drt} {A : Nat} {m : Int} (hr : rightB n D = true) (ho : Ok D) (hF : F.length = n * 64) (h : 0 ≤ m ∧ m ≤ n ∧ (A : Int) ≤ n - m) :
    allF n (flushF n F D A m) (flushD n D A m) = app F D ∧ allN n (flushD n D A m) = n := by
  have hE := flush_ok hr h
  have e1 : flushF n F D A m = app F (D.filter (inR A (flushTo n A m))) := by simp only [flushF, hE, if_true]
  have e2 : flushD n D A m = D.filter (fun d => !inR A (flushTo n A m) d) := by simp only [flushD, hE, if_true]
  rw [e1, e2]
  simp only [allF, allN, right_filter11 _ hr, if_true]
  exact ⟨app_split (n := n) (inR A (flushTo n A m)) (fun d e h => by simp [inR, h]) D F hF (fit_of_right hr ho), trivial⟩
theorem shows_beg {n : Nat} {F : List UInt8} {D : List Drt} {p r l cc : Bool} {M : List Sns} {s : Sns} {lun luns : Int} {c : Cmd} (hr : rightB n D = true) (ho : Ok D) (hF : F.length = n * 64) : Shows n F D p l (begI n F D p r l cc M s lun luns c).1 := by
  have h0 := shows_same (F := F) p l hr
  have hs : ∀ (l' : Bool) (M' : List Sns) (s' : Sns), Shows n F D p l (F, D, p, l', M', s') := fun l' M' s' => ⟨h0.1, h0.2, fun _ h => h⟩
  unfold begI
  refine ite_all11 (P := fun Z : Utt × Itt => Shows n F D p l Z.1) (hs _ _ _) ?_
  refine ite_all11 (P := fun Z : Utt × Itt => Shows n F D p l Z.1) (hs _ _ _) ?_
  refine ite_all11 (P := fun Z : Utt × Itt => Shows n F D p l Z.1) (hs _ _ _) ?_
  refine ite_all11 (P := fun Z : Utt × Itt => Shows n F D p l Z.1) (hs _ _ _) ?_
  refine ite_all11 (P := fun Z : Utt × Itt => Shows n F D p l Z.1) (hs _ _ _) ?_
  refine ite_all11 (P := fun Z : Utt × Itt => Shows n F D p l Z.1) ?_ ?_
  · unfold stI
    refine ite_all11 (P := fun Z : Utt × Itt => Shows n F D p l Z.1) ⟨h0.1, h0.2, fun _ _ => rfl⟩ ?_
    refine ite_all11 (P := fun Z : Utt × Itt => Shows n F D p l Z.1) ?_ ?_
    · have h1 := shows_bt (F := F) p l hr
      refine ⟨h1.1, h1.2, fun hl hp => ?_⟩
      rw [hl, hp]
      rfl
    refine ite_all11 (P := fun Z : Utt × Itt => Shows n F D p l Z.1) ?_ (hs _ _ _)
    have h1 := shows_bt (F := F) true false hr
    exact ⟨h1.1, h1.2, fun _ hp => hp⟩
  refine ite_all11 (P := fun Z : Utt × Itt => Shows n F D p l Z.1) (hs _ _ _) ?_
  refine ite_all11 (P := fun Z : Utt × Itt => Shows n F D p l Z.1) (hs _ _ _) ?_
  refine ite_all11 (P := fun Z : Utt × Itt => Shows n F D p l Z.1) (hs _ _ _) ?_
  refine ite_all11 (P := fun Z : Utt × Itt => Shows n F D p l Z.1) (hs _ _ _) ?_
  refine ite_all11 (P := fun Z : Utt × Itt => Shows n F D p l Z.1) (hs _ _ _) ?_
  unfold blI
  refine ite_all11 (P := fun Z : Utt × Itt => Shows n F D p l Z.1) (hs _ _ _) ?_
  refine ite_all11 (P := fun Z : Utt × Itt => Shows n F D p l Z.1) (hs _ _ _) ?_
  refine ite_all11 (P := fun Z : Utt × Itt => Shows n F D p l Z.1) (hs _ _ _) ?_
  by_cases hc : checkS n D p r c.2.1 c.2.2.1 false = (0, 0, 0) ∧ rightB n D = true
  · rw [if_pos hc]
    have h1 := shows_flush (F := F) hr ho hF (check_in hc.1 hr)
    exact ⟨h1.1, h1.2, fun _ hp => hp⟩
  · rw [if_neg hc]
    exact hs _ _ _
/-- what is synchronized isn't cached any more -/
def Synced (n : Nat) (A : Nat) (m : Int) (D : List Drt) : Prop := ∀ d ∈ D, 0 ≤ d.1 ∧ d.1 < 64 ∧ A ≤ 64 ∧ 0 ≤ m ∧ m ≤ 64 ∧ (d.1 < (A : Int) ∨ (m ≠ 0 ∧ (A : Int) + m ≤ d.1))
theorem synced_flush {n : Nat} {D : List Drt} {A : Nat} {m : Int} (hr : rightB n D = true) (h : 0 ≤ m ∧ m ≤ n ∧ (A : Int) ≤ n - m) : Synced n A m (flushD n D A m) := by
  have hE := flush_ok hr h
  have e2 : flushD n D A m = D.filter (fun d => !inR A (flushTo n A m) d) := by simp only [flushD, hE, if_true]
  rw [e2]
  intro d hd
  have h1 := (List.mem_filter.1 hd)
  simp only [rightB, decide_eq_true_eq] at hr
  have h2 := hr.2.2 d h1.1
  have h3 : (A : Int) ≤ d.1 → flushTo n A m ≤ d.1 := by
    have := h1.2
    simp [inR] at this
    intro h4
    omega
  unfold flushTo at h3
  refine ⟨h2.1, by omega, by omega, h.1, by omega, ?_⟩
  by_cases hA : d.1 < (A : Int)
  · exact .inl hA
  · refine .inr ?_
    split at h3
    · exfalso; omega
    · rename_i h4
      refine ⟨fun e => h4 (.inl e), by omega⟩
theorem class4_ne {op : Int} (h : classI op = 4) : op ≠ 0 ∧ op ≠ 3 ∧ op ≠ 18 ∧ ¬ (op = 26 ∨ op = 90) ∧ ¬ (op = 21 ∨ op = 85) ∧ op ≠ 27 ∧ op ≠ 30 ∧ op ≠ 37 ∧ op ≠ 158 ∧ op ≠ 160 := by
  refine ⟨?_, ?_, ?_, ?_, ?_, ?_, ?_, ?_, ?_, ?_⟩
  · rintro rfl; revert h; decide
  · rintro rfl; revert h; decide
  · rintro rfl; revert h; decide
  · rintro (rfl | rfl) <;> (revert h; decide)
  · rintro (rfl | rfl) <;> (revert h; decide)
  · rintro rfl; revert h; decide
  · rintro rfl; revert h; decide
  · rintro rfl; revert h; decide
  · rintro rfl; revert h; decide
  · rintro rfl; revert h; decide
theorem synced_beg {n : Nat} {F : List UInt8} {D : List Drt} {p r l cc : Bool} {M : List Sns} {s : Sns} {lun luns : Int} {c : Cmd} (hr : rightB n D = true) (hk : classI c.1 = 4) (h : (begI n F D p r l cc M s lun luns c).2.2.2.2.2.2 = (0, 0, 0)) : Synced n c.2.1 c.2.2.1 (begI n F D p r l cc M s lun luns c).1.2.1 := by
  obtain ⟨h1, h2, h3, h4, h5, h6, h7, h8, h9, h10⟩ := class4_ne hk
  have e : begI n F D p r l cc M s lun luns c = blI n F D p r l M s c := by
    unfold begI
    rw [if_neg h1, if_neg h2, if_neg h3, if_neg h4, if_neg h5, if_neg h6, if_neg h7, if_neg h8, if_neg h9, if_neg h10, if_neg (by rw [hk]; decide)]
  rw [e] at h ⊢
  unfold blI at h ⊢
  rw [if_neg (by rw [hk]; decide), if_neg (by rw [hk]; decide), if_neg (by rw [hk]; decide)] at h ⊢
  by_cases hc : checkS n D p r c.2.1 c.2.2.1 false = (0, 0, 0) ∧ rightB n D = true
  · rw [if_pos hc]
    exact synced_flush hr (check_in hc.1 hr)
  · rw [if_neg hc] at h
    exact absurd ⟨h, hr⟩ hc
end Go.Proofs.Ytmelkgmbiiobgaa
