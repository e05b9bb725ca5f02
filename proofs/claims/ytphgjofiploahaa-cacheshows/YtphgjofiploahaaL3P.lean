import Derived.Test.YtphgjofiploahaaR3j
import Derived.Test.YtphgjofiploahaaOv
namespace Go.Proofs.Ytphgjofiploahaa
set_option linter.unusedVariables false
set_option linter.unusedSimpArgs false

/-! What media are, without memory. -/
def blk (F : List UInt8) (b : Nat) : List UInt8 := seg F (b * 64) 64
theorem app_nil (F : List UInt8) : app F [] = F := rfl
theorem app_cons (F : List UInt8) (d : Drt) (D : List Drt) : app F (d :: D) = app (over F (d.1.toNat * 64) d.2) D := rfl
theorem Fit.tail {n : Nat} {d : Drt} {D : List Drt} (h : Fit n (d :: D)) : Fit n D := fun x hx => h x (by simp [hx])
theorem Fit.head {n : Nat} {d : Drt} {D : List Drt} (h : Fit n (d :: D)) : d.2.length = 64 ∧ 0 ≤ d.1 ∧ d.1 < n := h d (by simp)
theorem Fit.filter {n : Nat} {D : List Drt} (h : Fit n D) (p : Drt → Bool) : Fit n (D.filter p) := fun d hd => h d (List.mem_filter.1 hd).1
theorem Fit.sub {n : Nat} {D E : List Drt} (h : Fit n D) (hs : ∀ e ∈ E, e ∈ D) : Fit n E := fun d hd => h d (hs d hd)
theorem Fit.in {n : Nat} {d : Drt} {F : List UInt8} (h : d.2.length = 64 ∧ 0 ≤ d.1 ∧ d.1 < n) (hF : F.length = n * 64) : d.1.toNat * 64 + d.2.length ≤ F.length := by omega
theorem over_len {n : Nat} {d : Drt} {F : List UInt8} (h : d.2.length = 64 ∧ 0 ≤ d.1 ∧ d.1 < n) (hF : F.length = n * 64) : (over F (d.1.toNat * 64) d.2).length = n * 64 := by rw [over_length _ _ _ (Fit.in h hF), hF]

theorem app_over {n : Nat} {d : Drt} (hd : d.2.length = 64 ∧ 0 ≤ d.1 ∧ d.1 < n) : ∀ (E : List Drt) (F : List UInt8), F.length = n * 64 → Fit n E → (∀ e ∈ E, e.1 ≠ d.1) → app (over F (d.1.toNat * 64) d.2) E = over (app F E) (d.1.toNat * 64) d.2
  | [], F, _, _, _ => rfl
  | e :: E, F, hF, hE, hne => by
    have he := hE.head
    have h1 := hne e (by simp)
    rw [app_cons, app_cons, over_comm F d.2 e.2 _ _ (Fit.in hd hF) (Fit.in he hF) (by omega)]
    exact app_over hd E _ (over_len he hF) hE.tail (fun x hx => hne x (by simp [hx]))
theorem app_split {n : Nat} (p : Drt → Bool) (hp : ∀ d e : Drt, d.1 = e.1 → p d = p e) : ∀ (D : List Drt) (F : List UInt8), F.length = n * 64 → Fit n D → app (app F (D.filter p)) (D.filter fun d => !p d) = app F D
  | [], F, _, _ => rfl
  | d :: D, F, hF, hD => by
    have hd := hD.head
    have hl := over_len hd hF
    cases hpd : p d with
    | true =>
      have h1 : (d :: D).filter p = d :: D.filter p := by simp [hpd]
      have h2 : (d :: D).filter (fun d => !p d) = D.filter fun d => !p d := by simp [hpd]
      rw [h1, h2, app_cons, app_cons]
      exact app_split p hp D _ hl hD.tail
    | false =>
      have h1 : (d :: D).filter p = D.filter p := by simp [hpd]
      have h2 : (d :: D).filter (fun d => !p d) = d :: D.filter fun d => !p d := by simp [hpd]
      rw [h1, h2, app_cons, app_cons, ← app_over hd _ _ hF (hD.tail.filter p) (fun e he h => by
        have := (List.mem_filter.1 he).2
        rw [hp e d h, hpd] at this
        cases this)]
      exact app_split p hp D _ hl hD.tail
theorem blk_over {n : Nat} {d : Drt} {F : List UInt8} (hd : d.2.length = 64 ∧ 0 ≤ d.1 ∧ d.1 < n) (hF : F.length = n * 64) (b : Nat) : blk (over F (d.1.toNat * 64) d.2) b = if d.1 = b then d.2 else blk F b := by
  unfold blk
  by_cases h : d.1 = b
  · rw [if_pos h]
    have := seg_over F (d.1.toNat * 64) d.2 (Fit.in hd hF)
    rw [hd.1] at this
    rw [show b = d.1.toNat from by omega]
    exact this
  · rw [if_neg h]
    exact seg_over_else _ _ _ (Fit.in hd hF) _ _ (by omega)
theorem blk_app {n : Nat} (b : Nat) : ∀ (D : List Drt) (F : List UInt8), F.length = n * 64 → Fit n D → blk (app F D) b = blk F b ∨ ∃ d ∈ D, d.1 = b ∧ blk (app F D) b = d.2
  | [], F, _, _ => .inl rfl
  | d :: D, F, hF, hD => by
    have hd := hD.head
    rw [app_cons]
    rcases blk_app b D _ (over_len hd hF) hD.tail with h | ⟨e, he, h1, h2⟩
    · rw [h, blk_over hd hF b]
      by_cases hb : d.1 = b
      · exact .inr ⟨d, by simp, hb, by rw [if_pos hb]⟩
      · rw [if_neg hb]; exact .inl rfl
    · exact .inr ⟨e, by simp [he], h1, h2⟩
theorem blk_app_else {n : Nat} (b : Nat) (D : List Drt) (F : List UInt8) (hF : F.length = n * 64) (hD : Fit n D) (hne : ∀ d ∈ D, d.1 ≠ (b : Int)) : blk (app F D) b = blk F b := by
  rcases blk_app b D F hF hD with h | ⟨d, hd, h1, _⟩
  · exact h
  · exact absurd h1 (hne d hd)

theorem right_iff (n : Nat) (D : List Drt) : rightB n D = true ↔ n ≤ 64 ∧ D.length ≤ 64 ∧ ∀ d ∈ D, 0 ≤ d.1 ∧ d.1 < n := by simp [rightB]
theorem right_filter {n : Nat} {D : List Drt} (h : rightB n D = true) (p : Drt → Bool) : rightB n (D.filter p) = true := by
  rw [right_iff] at *
  exact ⟨h.1, Nat.le_trans (List.length_filter_le _ _) h.2.1, fun d hd => h.2.2 d (List.mem_filter.1 hd).1⟩
theorem right_nil {n : Nat} {D : List Drt} (h : rightB n D = true) : rightB n [] = true := by
  rw [right_iff] at *
  exact ⟨h.1, by simp, by simp⟩
theorem inR_all {n : Nat} {D : List Drt} (h : Fit n D) : D.filter (inR 0 (n : Int)) = D ∧ D.filter (fun d => !inR 0 (n : Int) d) = [] := by
  constructor
  · rw [List.filter_eq_self]
    intro d hd
    have := h d hd
    simp [inR]; omega
  · rw [List.filter_eq_nil_iff]
    intro d hd
    have := h d hd
    simp [inR]; omega
theorem flush0 {n : Nat} {F : List UInt8} {D : List Drt} (h : rightB n D = true) (ho : Ok D) : flushE n D 0 0 = 0 ∧ flushN n D 0 0 = n ∧ flushF n F D 0 0 = app F D ∧ flushD n D 0 0 = [] := by
  have hf := fit_of_right h ho
  have e : flushE n D 0 0 = 0 := by simp [flushE, h, flushOk]
  have ht : flushTo n 0 0 = n := by simp [flushTo]
  refine ⟨e, by simp [flushN, e], ?_, ?_⟩
  · rw [flushF, if_pos e, ht, (inR_all hf).1]
  · rw [flushD, if_pos e, ht, (inR_all hf).2]
theorem inR_pos (f t : Int) (d e : Drt) (h : d.1 = e.1) : inR f t d = inR f t e := by simp [inR, h]
/-- flushing changes nothing of what is shown -/
theorem flush_shows {n : Nat} {F : List UInt8} {D : List Drt} (at_ m : Int) (h : rightB n D = true) (ho : Ok D) (hF : F.length = n * 64) (he : flushE n D at_ m = 0) :
    rightB n (flushD n D at_ m) = true ∧ flushN n D at_ m = n ∧ app (flushF n F D at_ m) (flushD n D at_ m) = app F D := by
  refine ⟨by rw [flushD, if_pos he]; exact right_filter h _, by simp [flushN, he], ?_⟩
  rw [flushF, flushD, if_pos he, if_pos he]
  exact app_split _ (inR_pos _ _) D F hF (fit_of_right h ho)
theorem lose_nil (n : Nat) (F : List UInt8) (mask : Nat) (h : rightB n [] = true) : loseE n [] = 0 ∧ loseN n [] = n ∧ loseF n F [] mask = F := by
  simp [loseE, loseN, loseF, h, pickM, app]
/-- what goes through lasts -/
theorem through_lasts {n : Nat} {F : List UInt8} {D : List Drt} (k : Nat) (X : List UInt8) (mask : Nat) (h : rightB n D = true) (ho : Ok D) (hF : F.length = n * 64) (hk : k < n) (hX : X.length = 64) :
    wrE n D k = 0 ∧ wrN n D k = n ∧ rightB n (wrD n D k X true) = true ∧ (wrF n F D k X true).length = n * 64 ∧ blk (app (wrF n F D k X true) (pickM (wrD n D k X true) mask)) k = X := by
  have hf := fit_of_right h ho
  have e : wrE n D k = 0 := by simp only [wrE, h, if_true]; rw [if_pos (by omega)]
  have hd : ((k : Int), X).2.length = 64 ∧ 0 ≤ ((k : Int), X).1 ∧ ((k : Int), X).1 < n := ⟨hX, by simp, by simpa using hk⟩
  have hl := app_length n _ F hF (hf.filter (inR k (k + 1)))
  have hl2 := over_len hd hl
  have eF : wrF n F D k X true = over (app F (D.filter (inR k (k + 1)))) (((k : Int), X).1.toNat * 64) X := by simp [wrF, e]
  have eD : wrD n D k X true = D.filter fun d => !inR k (k + 1) d := by simp [wrD, e]
  refine ⟨e, by simp [wrN, e], by rw [eD]; exact right_filter h _, by rw [eF]; exact hl2, ?_⟩
  rw [eF, eD, blk_app_else k _ _ hl2 ((hf.filter _).sub fun d hd => pickM_mem hd) (fun d hd => ?_)]
  · rw [blk_over hd hl k, if_pos rfl]
  · have := (List.mem_filter.1 (pickM_mem hd)).2
    simp [inR] at this
    intro h; omega
end Go.Proofs.Ytphgjofiploahaa
