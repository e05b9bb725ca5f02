import Derived.Test.YtphgjofiploahaaL3P
import Derived.Test.YtphgjofiploahaaOpn3
namespace Go.Proofs.Ytphgjofiploahaa
open Go.ChangeShapes Go.WideShapes Go.ChangeAt Go.RowKit
set_option linter.unusedVariables false
set_option linter.unusedSimpArgs false

/-! What may be there when the power goes. -/
def May (n : Nat) (G A : List UInt8) (W : List Drt) : Prop := ∀ b, b < n → blk G b = blk A b ∨ ∃ d ∈ W, d.1 = (b : Int) ∧ d.2 = blk G b
def Loses (n : Nat) (G : List UInt8) (E : List Drt) (A : List UInt8) (W : List Drt) : Prop :=
  rightB n E = true ∧ Ok E ∧ G.length = n * 64 ∧ A.length = n * 64 ∧ May n G A W ∧ ∀ e ∈ E, e ∈ W
theorem Loses.fit {n : Nat} {G : List UInt8} {E : List Drt} {A : List UInt8} {W : List Drt} (h : Loses n G E A W) : Fit n E := fit_of_right h.1 h.2.1
theorem loses_start {n : Nat} {F : List UInt8} {D : List Drt} (h : rightB n D = true) (ho : Ok D) (hF : F.length = n * 64) : Loses n (app F D) [] (app F D) [] := by
  have hl := app_length n D F hF (fit_of_right h ho)
  exact ⟨right_nil h, (fun d hd => by cases hd), hl, hl, fun b _ => .inl rfl, fun e he => by cases he⟩
theorem Loses.flush {n : Nat} {G : List UInt8} {E : List Drt} {A : List UInt8} {W : List Drt} (h : Loses n G E A W) : Loses n (app G E) [] (app G E) [] := loses_start h.1 h.2.1 h.2.2.1
/-- what is done of the cached writes may be there -/
theorem Loses.may {n : Nat} {G : List UInt8} {E : List Drt} {A : List UInt8} {W : List Drt} (h : Loses n G E A W) (E' : List Drt) (hs : ∀ e ∈ E', e ∈ E) : May n (app G E') A W := by
  intro b hb
  rcases blk_app b E' G h.2.2.1 (h.fit.sub hs) with h1 | ⟨d, hd, h1, h2⟩
  · rw [h1]; exact h.2.2.2.2.1 b hb
  · exact .inr ⟨d, h.2.2.2.2.2 d (hs d hd), h1, h2.symm⟩
theorem May.more {n : Nat} {G A : List UInt8} {W : List Drt} (h : May n G A W) (x : List Drt) : May n G A (W ++ x) := by
  intro b hb
  rcases h b hb with h | ⟨d, hd, h⟩
  · exact .inl h
  · exact .inr ⟨d, by simp [hd], h⟩
theorem Loses.write {n : Nat} {G : List UInt8} {E : List Drt} {A : List UInt8} {W : List Drt} (h : Loses n G E A W) (at_ : Int) (X : List UInt8) (th : Bool) (h0 : 0 ≤ at_) (h1 : at_ < n) (hX : X.length = 64) :
    wrE n E at_ = 0 ∧ wrN n E at_ = n ∧ Loses n (wrF n G E at_ X th) (wrD n E at_ X th) A (W ++ [(at_, X)]) := by
  have hf := h.fit
  have hr := (right_iff n E).1 h.1
  have e : wrE n E at_ = 0 := by simp only [wrE, h.1, if_true]; rw [if_pos ⟨h0, h1⟩]
  have hd : (at_, X).2.length = 64 ∧ 0 ≤ (at_, X).1 ∧ (at_, X).1 < n := ⟨hX, h0, h1⟩
  have hokd : Ok [(at_, X)] := fun d hd' => by
    have : d = (at_, X) := by simpa using hd'
    subst this
    exact ⟨hX, by show _ ≤ at_; omega, by show at_ ≤ _; have := hr.1; omega⟩
  refine ⟨e, by simp [wrN, e], ?_⟩
  cases th with
  | true =>
    have eF : wrF n G E at_ X true = over (app G (E.filter (inR at_ (at_ + 1)))) ((at_, X).1.toNat * 64) (at_, X).2 := by simp [wrF, e]
    have eD : wrD n E at_ X true = E.filter fun d => !inR at_ (at_ + 1) d := by simp [wrD, e]
    have hl := app_length n _ G h.2.2.1 (hf.filter (inR at_ (at_ + 1)))
    rw [eF, eD]
    refine ⟨right_filter h.1 _, h.2.1.filter _, over_len hd hl, h.2.2.2.1, fun b hb => ?_, fun x hx => List.mem_append_left _ (h.2.2.2.2.2 x (List.mem_filter.1 hx).1)⟩
    rw [blk_over hd hl b]
    by_cases hb' : at_ = (b : Int)
    · rw [if_pos hb']; exact .inr ⟨(at_, X), by simp, hb', rfl⟩
    · rw [if_neg hb', blk_app_else b _ G h.2.2.1 (hf.filter _) (fun d hd' he => by
        have := (List.mem_filter.1 hd').2
        simp [inR] at this
        omega)]
      exact h.2.2.2.2.1.more _ b hb
  | false =>
    by_cases h64 : E.length = 64
    · have eF : wrF n G E at_ X false = app G E := by simp [wrF, e, h64, (inR_all hf).1]
      have eD : wrD n E at_ X false = [(at_, X)] := by
        have h2 := (inR_all hf).2
        simp only [wrD, e, if_true, h64, Bool.false_eq_true, if_false]
        rw [h2]; rfl
      rw [eF, eD]
      refine ⟨?_, hokd, app_length n E G h.2.2.1 hf, h.2.2.2.1, (h.may E (fun e he => he)).more _, fun x hx => List.mem_append_right _ hx⟩
      rw [right_iff]
      refine ⟨hr.1, by simp, fun d hd' => ?_⟩
      have : d = (at_, X) := by simpa using hd'
      subst this
      exact ⟨h0, h1⟩
    · have eF : wrF n G E at_ X false = G := by simp [wrF, e, h64]
      have eD : wrD n E at_ X false = E ++ [(at_, X)] := by simp [wrD, e, h64]
      rw [eF, eD]
      refine ⟨?_, h.2.1.append hokd, h.2.2.1, h.2.2.2.1, h.2.2.2.2.1.more _, fun x hx => ?_⟩
      · rw [right_iff]
        refine ⟨hr.1, by simp; omega, fun d hd' => ?_⟩
        rcases List.mem_append.1 hd' with hd' | hd'
        · exact hr.2.2 d hd'
        · have : d = (at_, X) := by simpa using hd'
          subst this
          exact ⟨h0, h1⟩
      · rcases List.mem_append.1 hx with hx | hx
        · exact List.mem_append_left _ (h.2.2.2.2.2 x hx)
        · exact List.mem_append_right _ hx
theorem write_out {n : Nat} {E : List Drt} (h : rightB n E = true) (at_ : Int) (ha : ¬ (0 ≤ at_ ∧ at_ < n)) : wrE n E at_ = 5 := by
  simp only [wrE, h, if_true]; rw [if_neg ha]
theorem Loses.lose {n : Nat} {G : List UInt8} {E : List Drt} {A : List UInt8} {W : List Drt} (h : Loses n G E A W) (mask : Nat) : loseE n E = 0 ∧ loseN n E = n ∧ (loseF n G E mask).length = n * 64 ∧ May n (loseF n G E mask) A W := by
  have e : loseF n G E mask = app G (pickM E mask) := by simp [loseF, h.1]
  refine ⟨by simp [loseE, h.1], by simp [loseN, h.1], ?_, ?_⟩
  · rw [e]; exact app_length n _ G h.2.2.1 (h.fit.sub fun d hd => pickM_mem hd)
  · rw [e]; exact h.may _ fun d hd => pickM_mem hd

/-! Acts that come in. -/
abbrev ActT := Int × UInt8 × Bool × Bool
def av (L : List ActT) : List Value := L.flatMap fun x => [.int .i64 x.1, .int .u8 (x.2.1.toNat : Int), .bool x.2.2.1, .bool x.2.2.2]
def OkA (L : List ActT) : Prop := ∀ x ∈ L, -9223372036854775808 ≤ x.1 ∧ x.1 ≤ 9223372036854775807
theorem av_cons (x : ActT) (L : List ActT) : av (x :: L) = [.int .i64 x.1, .int .u8 (x.2.1.toNat : Int), .bool x.2.2.1, .bool x.2.2.2] ++ av L := by simp [av]
theorem av_length (L : List ActT) : (av L).length = L.length * 4 := by
  induction L with
  | nil => rfl
  | cons x L ih => rw [av_cons, List.length_append, ih]; simp; omega
theorem av_drop : ∀ (L : List ActT) (k : Nat), (av L).drop (k * 4) = av (L.drop k)
  | L, 0 => by simp
  | [], k + 1 => by simp [av]
  | x :: L, k + 1 => by
    rw [av_cons, List.drop_succ_cons, ← av_drop L k, List.drop_append, List.drop_of_length_le (by simp; omega), List.nil_append]
    congr 1; simp; omega
theorem av_at (L : List ActT) (k : Nat) (hk : k < L.length) : (av L)[k * 4]? = some (.int .i64 L[k].1) ∧ (av L)[k * 4 + 1]? = some (.int .u8 (L[k].2.1.toNat : Int)) ∧ (av L)[k * 4 + 2]? = some (.bool L[k].2.2.1) ∧ (av L)[k * 4 + 3]? = some (.bool L[k].2.2.2) := by
  have h : ∀ j, (av L)[k * 4 + j]? = (av (L.drop k))[j]? := fun j => by rw [← av_drop, List.getElem?_drop]
  have h0 := h 0
  rw [Nat.add_zero] at h0
  rw [h0, h 1, h 2, h 3, List.drop_eq_getElem_cons hk, av_cons]
  exact ⟨rfl, rfl, rfl, rfl⟩
section
variable {H : Type} {enc : TypeId × Value → H} {w : World} {r : Reach} {base : Nat} {v : Value} {d : DataW H} {p : List MemPlace}
theorem Try.is_act : Try.prog.underlying 50 = some (.struct (Try.prog.fieldsOf 50)) := by kernel_rfl
theorem Try.fields_act : (Try.prog.fieldsOf 50).toList.map (fun f => (f.type, f.offset)) = [(3, 0), (5, 1), (4, 2), (4, 3)] := by kernel_rfl
theorem shape_act (fuel : Nat) (cs : List Value) (x : DataW H × List MemPlace) (h : DataW.trod enc Try.prog w 0 (fun _ => true) true fuel 50 cs = some x) : ∃ A : ActT, (-9223372036854775808 ≤ A.1 ∧ A.1 ≤ 9223372036854775807) ∧ cs = [.int .i64 A.1, .int .u8 (A.2.1.toNat : Int), .bool A.2.2.1, .bool A.2.2.2] := by
  obtain ⟨hl, m0, y0, h0⟩ := shape_field Try.is_act Try.fields_act 0 _ _ rfl h
  obtain ⟨_, m1, y1, h1⟩ := shape_field Try.is_act Try.fields_act 1 _ _ rfl h
  obtain ⟨_, m2, y2, h2⟩ := shape_field Try.is_act Try.fields_act 2 _ _ rfl h
  obtain ⟨_, m3, y3, h3⟩ := shape_field Try.is_act Try.fields_act 3 _ _ rfl h
  rw [show Try.prog.cellsOf 50 = 4 from by kernel_rfl] at hl
  rw [show Try.prog.cellsOf 3 = 1 from by kernel_rfl] at h0
  rw [show Try.prog.cellsOf 5 = 1 from by kernel_rfl] at h1
  rw [show Try.prog.cellsOf 4 = 1 from by kernel_rfl] at h2 h3
  obtain ⟨n, e0, wn⟩ := shape_int Try.underlying3 h0
  obtain ⟨c, e1⟩ := shape_u8 Try.underlying5 h1
  obtain ⟨b2, e2⟩ := shape_bool Try.underlying4 h2
  obtain ⟨b3, e3⟩ := shape_bool Try.underlying4 h3
  refine ⟨(n, c, b2, b3), bounds_i64 wn, ?_⟩
  match cs, hl with
  | [x0, x1, x2, x3], _ =>
    simp at e0 e1 e2 e3
    rw [e0, e1, e2, e3]
theorem av_flatten : ∀ css : List (List Value), (∀ cs ∈ css, ∃ A : ActT, (-9223372036854775808 ≤ A.1 ∧ A.1 ≤ 9223372036854775807) ∧ cs = [.int .i64 A.1, .int .u8 (A.2.1.toNat : Int), .bool A.2.2.1, .bool A.2.2.2]) → ∃ L : List ActT, L.length = css.length ∧ OkA L ∧ css.flatten = av L
  | [], _ => ⟨[], rfl, (fun d hd => by cases hd), rfl⟩
  | c :: css, h => by
    obtain ⟨X, hX, rfl⟩ := h c (by simp)
    obtain ⟨D, h1, h2, h3⟩ := av_flatten css (fun cs hcs => h cs (by simp [hcs]))
    refine ⟨X :: D, by simp [h1], fun d hd => ?_, by rw [List.flatten_cons, h3, av_cons]⟩
    rcases List.mem_cons.1 hd with rfl | hd
    · exact hX
    · exact h2 d hd
def RActs (w : World) (v : Value) : Prop := ∃ L : List ActT, OkA L ∧ Rw 4 w v L.length (av L)
theorem rd_acts (hv : Value.okWide Try.prog w r base 48 v) (h : DataW.Trod enc Try.prog w 0 (fun _ => true) true 48 v d p) : RActs w v := by
  obtain ⟨css, h1, h2⟩ := rd_rows Try.underlying48 (sz := 4) (by kernel_rfl) (by decide) (fun cs => ∃ A : ActT, (-9223372036854775808 ≤ A.1 ∧ A.1 ≤ 9223372036854775807) ∧ cs = [.int .i64 A.1, .int .u8 (A.2.1.toNat : Int), .bool A.2.2.1, .bool A.2.2.2]) (fun fuel cs x hx => shape_act fuel cs x hx) hv h
  obtain ⟨L, hL, hok, hf⟩ := av_flatten css (fun cs hcs => (h1 cs hcs).1)
  rw [hf, ← hL] at h2
  exact ⟨L, hok, h2⟩
end
end Go.Proofs.Ytphgjofiploahaa
