import Derived.Test.YtfefnkeognccpaaP4
namespace Go.Proofs.Ytfefnkeognccpaa
open Go.ChangeShapes Go.WideShapes Go.ChangeAt Go.RowKit
set_option linter.unusedVariables false
set_option linter.unusedSimpArgs false

/-! The landed sense: lists of senses. -/
set_option maxHeartbeats 1000000 in
theorem sindex_c {v : Value} {L : List Sns} (s : Sns) (w : World) (h : Sl w v L) :
    Calls Try.prog 39 #[v, sval s] w fun e w' => ∃ i : Int, e = .returned (.int .i64 i) ∧ Hid (decide (0 ≤ i) = hasB L s) ∧ Later w w' := by
  obtain ⟨h, hok⟩ := h
  obtain ⟨k, hk⟩ : ∃ k, k = L.length := ⟨_, rfl⟩
  rw [← hk] at h
  obtain ⟨ad, cap, rfl⟩ := h.shape
  have hkm := h.2.1
  unfold maxLen at hkm
  have HL := hide h
  have HK := hide hk
  clear h hk hok
  have BX0 := hide (Box.new w 23 #[.int .i64 s.1, .int .i64 s.2.1, .int .i64 s.2.2])
  have L0 := hide ((Later.refl w).alloc (.cells #[.int .i64 s.1, .int .i64 s.2.1, .int .i64 s.2.2] 23))
  go_enter Try.func39, Try.ntmps39
  go_wp2_with fail
  go_loopw [8] (fun i wr => ∃ q : Nat, q ≤ k ∧ i = .int .i64 q ∧ Hid (∀ j (hj : j < L.length), j < q → (s == L[j]) = false) ∧ Hid (Box wr w.heap.size 23 [.int .i64 s.1, .int .i64 s.2.1, .int .i64 s.2.2]) ∧ Hid (Later w wr)) (fun i _ => k - (intOf i).toNat)
  case atStart => exact ⟨0, Nat.zero_le _, rfl, fun _ _ h => by omega, BX0, L0⟩
  case round =>
    clear BX0 L0
    obtain ⟨q, hq, rfl, hall, hbx, hl⟩ := hrel
    by_cases hlt : q < k
    · obtain ⟨b, off, e, hr⟩ := (HL.out.later hl.out).lies? (by omega)
      subst e
      have hqL : q < L.length := by have := HK.out; omega
      have hat := sv_at L q hqL
      have c0 := hr _ _ hat.1
      have c1 := hr _ _ hat.2.1
      have c2 := hr _ _ hat.2.2
      have hyes : Hid ((s == L[q]) = true → hasB L s = true) := fun h => by
        rw [hasB, List.any_eq_true]; exact ⟨_, List.getElem_mem hqL, by rw [BEq.comm]; exact h⟩
      have hno : Hid ((s == L[q]) = false → ∀ j (hj : j < L.length), j < q + 1 → (s == L[j]) = false) := by
        intro h j hj hjq
        by_cases hjq' : j = q
        · subst hjq'; exact h
        · exact hall.out j hj (by omega)
      generalize L[q] = t at *
      clear hat hr hall
      rw [← Nat.add_assoc] at c1 c2
      have hc := fun r => ((Later.refl wr).drew.trans (later_rg wr.drew r))
      have a0 := fun r => (hc r).cellOf c0
      have a1 := fun r => (hc r).cellOf c1
      have a2 := fun r => (hc r).cellOf c2
      have x0 := fun r => (hbx.out.later (hc r)).cell 0
      have x1 := fun r => (hbx.out.later (hc r)).cell 1
      have x2 := fun r => (hbx.out.later (hc r)).cell 2
      go_wp2_with fail
      refine wp_region_sched ((List.range 6).map fun i => (i, false)) (by kernel_rfl) (by kernel_rfl) (by kernel_rfl) (by kernel_rfl) ?_
      simp only [List.range, List.range.loop, List.map]
      iterate 5 (refine wpS_mild rfl (fun K hK => ?_); go_simp; refine hK _ ?_; clear hK K)
      refine wpS_eqG rfl (by kernel_rfl) 23 _ (.tmp 11) (.tmp 15) rfl _ _ rfl rfl Try.guard_sense (s == t) (fun w => sense_eq s t w) ?_
      refine wpS_nil (fun wx hwx => ?_)
      have Lx := hide (hl.out.drew.trans hwx)
      have Bx := hide (Box.later hbx.out ((Later.refl wr).drew.trans hwx))
      clear a0 a1 a2 x0 x1 x2 c0 c1 c2 hc hwx hl hbx
      cases hts : (s == t) with
      | true =>
        rw [hts] at hyes
        go_wp2
        go_ret
        refine ⟨_, rfl, ?_, Lx.out⟩
        unfold Hid
        rw [hyes.out (by simp)]
        simp
      | false =>
        rw [hts] at hno
        go_wp2
        go_roundw
        case rel => exact ⟨q + 1, by omega, by go_num, hno.out (by simp), Bx, Lx⟩
        case measure => simp [intOf]; omega
    · go_wp2
      go_ret
      refine ⟨_, rfl, ?_, hl.out⟩
      have hk := HK.out
      have : hasB L s = false := by
        rw [hasB, List.any_eq_false]
        intro x hx
        obtain ⟨j, hj, rfl⟩ := List.mem_iff_getElem.1 hx
        rw [BEq.comm]
        simp [hall.out j hj (by omega)]
      unfold Hid
      rw [this]
      simp
theorem scont_c {v : Value} {L : List Sns} (s : Sns) (w : World) (h : Sl w v L) :
    Calls Try.prog 37 #[v, sval s] w fun e w' => e = .returned (.bool (hasB L s)) ∧ Later w w' := by
  have H := hide h
  obtain ⟨k, hk⟩ : ∃ k, k = L.length := ⟨_, rfl⟩
  obtain ⟨h, hok⟩ := h
  rw [← hk] at h
  obtain ⟨ad, cap, rfl⟩ := h.shape
  clear h hk hok
  have BX := hide (Box.new w 23 #[.int .i64 s.1, .int .i64 s.2.1, .int .i64 s.2.2])
  have L0 := hide ((Later.refl w).alloc (.cells #[.int .i64 s.1, .int .i64 s.2.1, .int .i64 s.2.2] 23))
  go_enter Try.func37, Try.ntmps37
  go_wp2_with fail
  refine (sindex_c s _ (H.out.later L0.out)).mono ?_
  rintro e w1 ⟨i, rfl, hi, hl⟩
  have L1 := hide (L0.out.trans hl)
  clear hl L0 BX
  go_wp2
  go_ret
  exact ⟨ret_bool hi.out, L1.out⟩

set_option maxHeartbeats 1000000 in
theorem slist_c {u v : Value} {L M : List Sns} (w : World) (hu : Sl w u L) (hv : Sl w v M) (hn : L.length ≤ 1000) (hm : M.length ≤ 1000) :
    Calls Try.prog 38 #[u, v] w fun e w' => ∃ v', e = .returned v' ∧ Later w w' ∧ SlO w' w.heap.size v' (L ++ M) := by
  obtain ⟨hu, hou⟩ := hu
  obtain ⟨hv, hov⟩ := hv
  obtain ⟨k, hk⟩ : ∃ k, k = L.length := ⟨_, rfl⟩
  obtain ⟨m, hmm⟩ : ∃ m, m = M.length := ⟨_, rfl⟩
  rw [← hk] at hu hn
  rw [← hmm] at hv hm
  obtain ⟨au, cu, rfl⟩ := hu.shape
  obtain ⟨av, cv, rfl⟩ := hv.shape
  have HU := hide hu
  have HV := hide hv
  have HK := hide hk
  have HM := hide hmm
  clear hu hv hk hmm hou hov
  go_enter Try.func38, Try.ntmps38
  go_wp2_with (at_make; refine wpList_make_room Try.elem_sense rfl _ _ 34 rfl Try.underlying34 _ (k + m) rfl rfl ?c0 ?c1 ?c2 ?_)
  case c0 => first | (simp; done) | go_num | (simp [IntKind.wrap_i64]; omega)
  case c1 => omega
  case c2 => unfold maxLen; omega
  intro w1 ho1 hl1
  have O1 := hide ho1
  have L1 : Hid (Below w.heap.size w w1) := hl1
  have U1 := hide (HU.out.later hl1)
  have V1 := hide (HV.out.later hl1)
  clear ho1 hl1
  go_wp2_with (at_builtin; refine wpList_append_rw Try.elem_sense Try.underlying34 rfl (by decide) rfl (.tmp 12) (.tmp 13) rfl w.heap.size _ 0 [] rfl O1.out _ k (sv L) rfl U1.out (sv_one L) ?c1 ?c2 ?c3 w L1.out ?_)
  case c1 => omega
  case c2 => unfold maxLen; omega
  case c3 => exact L1.out.size
  intro v2 w2 ho2 hb2 hg2
  have O2 : Hid (w2.ownsRow w.heap.size 23 3 v2 k (sv L)) := by simpa [Hid] using ho2
  have L2 : Hid (Below w.heap.size w w2) := hb2
  have V2 : Hid (Rw 3 w2 (.slice av m cv) m (sv M)) := HV.out.later hb2
  clear ho2 hb2 hg2 O1 L1 U1 V1
  go_wp2_with (at_builtin; refine wpList_append_rw Try.elem_sense Try.underlying34 rfl (by decide) rfl (.tmp 15) (.tmp 16) rfl w.heap.size _ k (sv L) rfl O2.out _ m (sv M) rfl V2.out (sv_one M) ?c1 ?c2 ?c3 w L2.out ?_)
  case c1 => omega
  case c2 => unfold maxLen; omega
  case c3 => exact L2.out.size
  intro v3 w3 ho3 hb3 hg3
  go_wp2
  go_ret
  refine ⟨_, rfl, hb3, ?_⟩
  unfold SlO
  rw [sv_append, List.length_append, ← HK.out, ← HM.out]
  exact ho3

/-! Add. -/
theorem slO_add {w w' : World} {v : Value} {L : List Sns} {s : Sns} (h : SlO w' w.heap.size v (addL L s)) (ho : ∀ x ∈ L, OkS x) (hs : OkS s) : Sl w' v (addL L s) ∧ ∀ g, g < w.heap.size → OffS g v :=
  ⟨h.sl (addL_ok ho hs), fun _ hg => owns_off h hg⟩
set_option maxRecDepth 20000 in
set_option maxHeartbeats 1000000 in
theorem sadd_c : IAddS := by
  intro v L s w h hs hn
  have HS := hide h
  have HOs := hide hs
  obtain ⟨h, hok⟩ := h
  have HOk := hide hok
  obtain ⟨k, hk⟩ : ∃ k, k = L.length := ⟨_, rfl⟩
  rw [← hk] at h hn
  obtain ⟨ad, cap, rfl⟩ := h.shape
  have HK := hide hk
  clear h hk hok hs
  have BX := hide (Box.new w 23 #[.int .i64 s.1, .int .i64 s.2.1, .int .i64 s.2.2])
  have L0 := hide ((Later.refl w).alloc (.cells #[.int .i64 s.1, .int .i64 s.2.1, .int .i64 s.2.2] 23))
  go_enter Try.func14, Try.ntmps14
  go_wp2_with fail
  refine (scont_c s _ (HS.out.later L0.out)).mono ?_
  generalize (w.alloc (.cells #[.int .i64 s.1, .int .i64 s.2.1, .int .i64 s.2.2] 23)) = w1 at *
  rintro e w2 ⟨rfl, hl⟩
  replace BX := hide (BX.out.later hl)
  replace L0 := hide (L0.out.later hl)
  clear hl
  cases hH : hasB L s with
  | true =>
    have hA : Hid (addL L s = L ++ []) := by unfold Hid addL; rw [hH]; simp
    go_wp2_with fail
    refine (slist_c _ (HS.out.later L0.out) (Sl.nil _) (by have := HK.out; omega) (by simp)).mono ?_
    rintro e w3 ⟨v3, rfl, hl, ho⟩
    have L1 := hide (L0.out.trans hl)
    have O := hide (ho.rebase L0.out.size)
    clear hl ho
    go_wp2
    go_ret
    refine ⟨_, rfl, L1.out, ?_⟩
    rw [← hA.out] at O
    exact slO_add O.out HOk.out HOs.out
  | false =>
    have hc := fun r => ((Later.refl w2).drew.trans (later_rg w2.drew r))
    have a0 := fun r => (BX.out.later (hc r)).cell 0
    have a1 := fun r => (BX.out.later (hc r)).cell 1
    have a2 := fun r => (BX.out.later (hc r)).cell 2
    go_wp2_with fail
    refine wp_region_sched [(0, false), (1, false), (2, false)] (by kernel_rfl) (by kernel_rfl) (by kernel_rfl) (by kernel_rfl) ?_
    iterate 1 (refine wpS_mild rfl (fun K hK => ?_); go_simp; refine hK _ ?_; clear hK K)
    refine wpS_call rfl (by kernel_rfl) 19 (Plain.of (by kernel_rfl)) [] _ rfl [] rfl (sval power) (fun wx hx => con_PowerOn wx) ?_
    refine wpS_eqG rfl (by kernel_rfl) 23 _ (.tmp 10) (.tmp 11) rfl _ _ rfl rfl Try.guard_sense (s == power) (fun w => sense_eq s power w) ?_
    refine wpS_nil (fun wx hwx => ?_)
    have hwx' := (Later.refl w2).drew.trans hwx
    replace BX := hide (BX.out.later hwx')
    replace L0 := hide (L0.out.later hwx')
    clear a0 a1 a2 hc hwx hwx'
    have d0 := BX.out.cell 0
    have d1 := BX.out.cell 1
    have d2 := BX.out.cell 2
    have hR1 : Hid (Sl (wx.alloc (.cells #[.int .i64 s.1, .int .i64 s.2.1, .int .i64 s.2.2] 23)) (.slice (some ⟨wx.heap.size, 0, none⟩) 1 1) [s]) := (SlO.box wx s).sl (by intro x hx; simp at hx; rw [hx]; exact HOs.out)
    have L5 := hide (L0.out.alloc (.cells #[.int .i64 s.1, .int .i64 s.2.1, .int .i64 s.2.2] 23))
    cases hP : (s == power) with
    | true =>
      have hA : Hid (addL L s = [] ++ [s]) := by unfold Hid addL; rw [hH, hP]; rfl
      go_wp2_with fail
      refine (slist_c _ (Sl.nil _) hR1.out (by simp) (by simp)).mono ?_
      rintro e w3 ⟨v3, rfl, hl, ho⟩
      have L1 := hide (L5.out.trans hl)
      have O := hide (ho.rebase L5.out.size)
      clear hl ho
      go_wp2
      go_ret
      refine ⟨_, rfl, L1.out, ?_⟩
      rw [← hA.out] at O
      exact slO_add O.out HOk.out HOs.out
    | false =>
      by_cases h4 : 4 ≤ k
      · have hA : Hid (addL L s = L ++ []) := by have hk := HK.out; unfold Hid addL; rw [if_neg (by simp [hH]), if_neg (by simp [hP]), if_pos (by omega)]; simp
        clear d0 d1 d2
        go_wp2_with fail
        refine (slist_c _ (HS.out.later L0.out) (Sl.nil _) (by have := HK.out; omega) (by simp)).mono ?_
        rintro e w3 ⟨v3, rfl, hl, ho⟩
        have L1 := hide (L0.out.trans hl)
        have O := hide (ho.rebase L0.out.size)
        clear hl ho
        go_wp2
        go_ret
        refine ⟨_, rfl, L1.out, ?_⟩
        rw [← hA.out] at O
        exact slO_add O.out HOk.out HOs.out
      · have hA : Hid (addL L s = L ++ [s]) := by have hk := HK.out; unfold Hid addL; rw [if_neg (by simp [hH]), if_neg (by simp [hP]), if_neg (by omega)]
        go_wp2_with fail
        refine (slist_c _ (HS.out.later L5.out) hR1.out (by have := HK.out; omega) (by simp)).mono ?_
        rintro e w3 ⟨v3, rfl, hl, ho⟩
        have L1 := hide (L5.out.trans hl)
        have O := hide (ho.rebase L5.out.size)
        clear hl ho
        go_wp2
        go_ret
        refine ⟨_, rfl, L1.out, ?_⟩
        rw [← hA.out] at O
        exact slO_add O.out HOk.out HOs.out
end Go.Proofs.Ytfefnkeognccpaa
