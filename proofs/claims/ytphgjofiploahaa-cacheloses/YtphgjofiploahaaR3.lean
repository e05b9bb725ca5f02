import Derived.Test.YtphgjofiploahaaR2e
namespace Go.Proofs.Ytphgjofiploahaa
open Go.ChangeShapes Go.WideShapes Go.ChangeAt Go.RowKit
set_option linter.unusedVariables false
set_option linter.unusedSimpArgs false

/-! Media: blocks as flat bytes, the cached writes as a list of places and bytes. -/
abbrev Drt := Int × List UInt8
def dv (D : List Drt) : List Value := D.flatMap fun d => .int .i64 d.1 :: bv d.2
def Ok (D : List Drt) : Prop := ∀ d ∈ D, d.2.length = 64 ∧ -9223372036854775808 ≤ d.1 ∧ d.1 ≤ 9223372036854775807
def Med (w : World) (v : Value) (n : Nat) (F : List UInt8) (D : List Drt) : Prop :=
  ∃ vb vd, v = .agg #[vb, vd] ∧ Rw 64 w vb n (bv F) ∧ Rw 65 w vd D.length (dv D) ∧ Ok D

theorem dv_nil : dv [] = [] := rfl
theorem dv_cons (d : Drt) (D : List Drt) : dv (d :: D) = (.int .i64 d.1 :: bv d.2) ++ dv D := by simp [dv]
theorem dv_append (D E : List Drt) : dv (D ++ E) = dv D ++ dv E := by simp [dv]
theorem dv_one (D : List Drt) : ∀ u ∈ dv D, u.oneCell' = true := by
  intro u hu
  simp only [dv, List.mem_flatMap] at hu
  obtain ⟨d, _, hd⟩ := hu
  rcases List.mem_cons.1 hd with rfl | h
  · rfl
  · exact bv_one _ u h
theorem Ok.tail {d : Drt} {D : List Drt} (h : Ok (d :: D)) : Ok D := fun x hx => h x (by simp [hx])
theorem Ok.append {D E : List Drt} (h : Ok D) (h' : Ok E) : Ok (D ++ E) := fun x hx => by
  rcases List.mem_append.1 hx with hx | hx
  · exact h x hx
  · exact h' x hx
theorem dv_length : ∀ (D : List Drt), Ok D → (dv D).length = D.length * 65
  | [], _ => rfl
  | d :: D, h => by rw [dv_cons, List.length_append, dv_length D h.tail]; simp [bv_length, (h d (by simp)).1]; omega
theorem dv_drop : ∀ (D : List Drt) (k : Nat), Ok D → (dv D).drop (k * 65) = dv (D.drop k)
  | D, 0, _ => by simp
  | [], k + 1, _ => by simp [dv]
  | d :: D, k + 1, h => by
    have hl : (Value.int .i64 d.1 :: bv d.2).length = 65 := by simp [bv_length, (h d (by simp)).1]
    rw [dv_cons, List.drop_succ_cons, ← dv_drop D k h.tail, List.drop_append, hl, List.drop_of_length_le (by omega), List.nil_append]
    congr 1; omega
theorem dv_part (D : List Drt) (k : Nat) (hk : k < D.length) (h : Ok D) : ((dv D).drop (k * 65)).take 65 = .int .i64 D[k].1 :: bv D[k].2 := by
  have hl : (Value.int .i64 D[k].1 :: bv D[k].2).length = 65 := by simp [bv_length, (h D[k] (List.getElem_mem hk)).1]
  rw [dv_drop D k h, List.drop_eq_getElem_cons hk, dv_cons]
  have := List.take_left (l₁ := Value.int .i64 D[k].1 :: bv D[k].2) (l₂ := dv (D.drop (k + 1)))
  rw [hl] at this
  exact this
theorem dv_at (D : List Drt) (k : Nat) (hk : k < D.length) (h : Ok D) : (dv D)[k * 65]? = some (.int .i64 D[k].1) := by
  have := dv_part D k hk h
  have h2 := congrArg (fun l : List Value => l[0]?) this
  simpa [List.getElem?_take, List.getElem?_drop] using h2


def rightB (n : Nat) (D : List Drt) : Bool := decide (n ≤ 64 ∧ D.length ≤ 64 ∧ ∀ d ∈ D, 0 ≤ d.1 ∧ d.1 < n)

set_option maxHeartbeats 1000000 in
theorem rright_c {v : Value} {n : Nat} {F : List UInt8} {D : List Drt} (w : World) (h : Med w v n F D) :
    Calls Try.prog 17 #[v] w fun e w' => e = .returned (.bool (rightB n D)) ∧ Later w w' := by
  obtain ⟨vb, vd, rfl, hb, hd, hok⟩ := h
  obtain ⟨ab, cb, rfl⟩ := hb.shape
  obtain ⟨k, hk⟩ : ∃ k, k = D.length := ⟨_, rfl⟩
  rw [← hk] at hd
  obtain ⟨aD, cD, rfl⟩ := hd.shape
  have hn := hb.2.1
  have hkm := hd.2.1
  unfold maxLen at hn hkm
  have HD := hide hd
  have HK := hide hk
  have HO := hide hok
  clear hb hd hk hok
  have BX0 := hide (Box.new w 25 #[.slice ab n cb, .slice aD k cD])
  have L0 := hide ((Later.refl w).alloc (.cells #[.slice ab n cb, .slice aD k cD] 25))
  by_cases h1 : 64 < n
  · go_enter Try.func17, Try.ntmps17
    go_wp2
    go_ret
    exact ⟨ret_bool (by simp [rightB]; omega), L0.out⟩
  by_cases h2 : 64 < k
  · go_enter Try.func17, Try.ntmps17
    go_wp2
    go_ret
    exact ⟨ret_bool (by have := HK.out; simp [rightB]; omega), L0.out⟩
  go_enter Try.func17, Try.ntmps17
  go_wp2_with fail
  go_loopw [3] (fun i wr => ∃ q : Nat, q ≤ k ∧ i = .int .i64 q ∧ Hid (∀ j (hj : j < D.length), j < q → 0 ≤ D[j].1 ∧ D[j].1 < n) ∧ Hid (Box wr w.heap.size 25 [.slice ab n cb, .slice aD k cD]) ∧ Hid (Later w wr)) (fun i _ => k - (intOf i).toNat)
  case atStart => exact ⟨0, Nat.zero_le _, rfl, fun _ _ h => by omega, BX0, L0⟩
  case round =>
    clear BX0 L0
    obtain ⟨q, hq, rfl, hall, hbx, hl⟩ := hrel
    by_cases hlt : q < k
    · obtain ⟨bD, oD, e, hr⟩ := (HD.out.later hl.out).lies? (by omega)
      subst e
      have hqD : q < D.length := by have := HK.out; omega
      have hz := HO.out D[q] (List.getElem_mem hqD)
      have hcell := hr _ _ (dv_at D q hqD HO.out)
      have hin : Hid (∀ z, z = D[q].1 → (0 ≤ z ∧ z < n) → ∀ j (hj : j < D.length), j < q + 1 → 0 ≤ D[j].1 ∧ D[j].1 < n) := by
        intro z hz1 hz2 j hj hjq
        by_cases hjq' : j = q
        · subst hjq'; rw [← hz1]; exact hz2
        · exact hall.out j hj (by omega)
      have hno : Hid (∀ z, z = D[q].1 → ¬ (0 ≤ z ∧ z < n) → rightB n D = false) := by
        intro z hz1 hz2
        simp only [rightB, decide_eq_false_iff_not]
        intro ⟨_, _, h⟩
        exact hz2 (by rw [hz1]; exact h _ (List.getElem_mem hqD))
      generalize hzz : D[q].1 = z at *
      have HZ := hide hzz.symm
      have hzb := hz.2
      clear hzz hz hall hr
      have hc0 := fun r => (Box.later hbx.out ((Later.refl wr).drew.trans (later_rg wr.drew r))).cell 0
      have hc1 := fun r => (Box.later hbx.out ((Later.refl wr).drew.trans (later_rg wr.drew r))).cell 1
      have hc2 := fun r => ((Later.refl wr).drew.trans (later_rg wr.drew r)).cellOf hcell
      have hd0 := hbx.out.cell 0
      have hd1 := hbx.out.cell 1
      go_wp2_with fail
      refine wp_region_sched ((List.range 19).map fun i => (i, false)) (by kernel_rfl) (by kernel_rfl) (by kernel_rfl) (by kernel_rfl) ?_
      simp only [List.range, List.range.loop, List.map]
      by_cases c1 : z < 0
      · iterate 19 (refine wpS_mild rfl (fun K hK => ?_); go_simp; refine hK _ ?_; clear hK K)
        refine wpS_nil (fun wx hwx => ?_)
        have Lx := hide (hl.out.drew.trans hwx)
        clear hc0 hc1 hc2 hd0 hd1 hcell hwx
        go_wp2
        go_ret
        exact ⟨ret_bool (hno.out z rfl (by omega)).symm, Lx.out⟩
      · by_cases c2 : (n : Int) ≤ z
        · iterate 19 (refine wpS_mild rfl (fun K hK => ?_); go_simp; refine hK _ ?_; clear hK K)
          refine wpS_nil (fun wx hwx => ?_)
          have Lx := hide (hl.out.drew.trans hwx)
          clear hc0 hc1 hc2 hd0 hd1 hcell hwx
          go_wp2
          go_ret
          exact ⟨ret_bool (hno.out z rfl (by omega)).symm, Lx.out⟩
        · iterate 19 (refine wpS_mild rfl (fun K hK => ?_); go_simp; refine hK _ ?_; clear hK K)
          refine wpS_nil (fun wx hwx => ?_)
          have Lx := hide (hl.out.drew.trans hwx)
          have Bx := hide (Box.later hbx.out ((Later.refl wr).drew.trans hwx))
          clear hc0 hc1 hc2 hd0 hd1 hcell hwx
          go_wp2
          go_roundw
          case rel => exact ⟨q + 1, by omega, by go_num, hin.out z rfl (by omega), Bx, Lx⟩
          case measure => simp [intOf]; omega
    · have hd1 := hbx.out.cell 1
      go_wp2
      go_ret
      refine ⟨ret_bool ?_, hl.out⟩
      have hk := HK.out
      symm
      simp only [rightB, decide_eq_true_eq]
      refine ⟨by omega, by omega, fun d hd => ?_⟩
      obtain ⟨j, hj, rfl⟩ := List.mem_iff_getElem.1 hd
      exact hall.out j hj (by omega)
end Go.Proofs.Ytphgjofiploahaa
