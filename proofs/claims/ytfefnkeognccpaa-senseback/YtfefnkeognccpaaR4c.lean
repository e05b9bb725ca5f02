import Derived.Test.YtfefnkeognccpaaR4b
namespace Go.Proofs.Ytfefnkeognccpaa
open Go.ChangeShapes Go.WideShapes Go.ChangeAt Go.RowKit
set_option linter.unusedVariables false
set_option linter.unusedSimpArgs false

/-! The document's answers for lists of senses: Add, First. -/
def power : Sns := (6, 41, 0)
def addL (L : List Sns) (s : Sns) : List Sns := if hasB L s then L else if s == power then [s] else if 4 ≤ L.length then L else L ++ [s]
theorem addL_ok {L : List Sns} {s : Sns} (h : ∀ x ∈ L, OkS x) (hs : OkS s) : ∀ x ∈ addL L s, OkS x := by
  intro x hx
  unfold addL at hx
  split at hx
  · exact h x hx
  · split at hx
    · simp at hx; rw [hx]; exact hs
    · split at hx
      · exact h x hx
      · rcases List.mem_append.1 hx with hx | hx
        · exact h x hx
        · simp at hx; rw [hx]; exact hs
theorem addL_length (L : List Sns) (s : Sns) : (addL L s).length ≤ L.length + 1 := by
  unfold addL
  split
  · omega
  · split
    · simp
    · split
      · omega
      · simp
/-- a list in one's own memory -/
def SlO (w : World) (B : Nat) (v : Value) (L : List Sns) : Prop := w.ownsRow B 23 3 v L.length (sv L)
theorem SlO.sl {w : World} {B : Nat} {v : Value} {L : List Sns} (h : SlO w B v L) (ho : ∀ s ∈ L, OkS s) : Sl w v L := ⟨Rw.of_owns h, ho⟩
theorem SlO.later {w w' : World} {B : Nat} {v : Value} {L : List Sns} (h : SlO w B v L) (hl : Later w w') : SlO w' B v L := owns_later h hl
theorem SlO.rebase {w : World} {B B' : Nat} {v : Value} {L : List Sns} (h : SlO w B v L) (hb : B' ≤ B) : SlO w B' v L := owns_rebase h hb
theorem SlO.box (w : World) (s : Sns) : SlO (w.alloc (.cells #[.int .i64 s.1, .int .i64 s.2.1, .int .i64 s.2.2] 23)) w.heap.size (.slice (some ⟨w.heap.size, 0, none⟩) 1 1) [s] := by
  have := World.ownsRow_lit (base := w.heap.size) (e := 23) (size := 3) w #[.int .i64 s.1, .int .i64 s.2.1, .int .i64 s.2.2] 1 (Nat.le_refl _) (by simp [maxLen]) rfl
  unfold SlO
  rw [sv_single]
  exact this

set_option maxRecDepth 20000 in
set_option maxHeartbeats 1000000 in
theorem radd_c {v : Value} {L : List Sns} (s : Sns) (w : World) (h : Sl w v L) (hn : L.length ≤ 1000) :
    Calls Try.prog 15 #[v, sval s] w fun e w' => ∃ v', e = .returned v' ∧ Later w w' ∧ SlO w' w.heap.size v' (addL L s) := by
  have HS := hide h
  obtain ⟨h, hok⟩ := h
  obtain ⟨k, hk⟩ : ∃ k, k = L.length := ⟨_, rfl⟩
  rw [← hk] at h hn
  obtain ⟨ad, cap, rfl⟩ := h.shape
  have HL := hide h
  have HK := hide hk
  clear h hk hok
  have BX0 := hide ((Box.new w 23 #[.int .i64 s.1, .int .i64 s.2.1, .int .i64 s.2.2]).alloc (.cells #[] 23))
  have L0 := hide (((Later.refl w).alloc (.cells #[.int .i64 s.1, .int .i64 s.2.1, .int .i64 s.2.2] 23)).alloc (.cells #[] 23))
  have O0 : Hid (((w.alloc (.cells #[.int .i64 s.1, .int .i64 s.2.1, .int .i64 s.2.2] 23)).alloc (.cells #[] 23)).ownsRow w.heap.size 23 3 (.slice (some ⟨w.heap.size + 1, 0, none⟩) 0 0) 0 []) := by
    have := World.ownsRow_lit (base := w.heap.size) (e := 23) (size := 3) (w.alloc (.cells #[.int .i64 s.1, .int .i64 s.2.1, .int .i64 s.2.2] 23)) #[] 0 (by simp) (by simp [maxLen]) rfl
    simpa [Hid] using this
  have H0 := hide (HL.out.later L0.out)
  go_enter Try.func15, Try.ntmps15
  go_wp2_with (at_builtin; refine wpList_append_rw Try.elem_sense Try.underlying34 rfl (by decide) rfl (.tmp 6) (.tmp 7) rfl w.heap.size _ 0 [] rfl O0.out _ k (sv L) rfl H0.out (sv_one L) ?c1 ?c2 ?c3 w L0.out ?_)
  case c1 => omega
  case c2 => unfold maxLen; omega
  case c3 => omega
  generalize ((w.alloc (.cells #[.int .i64 s.1, .int .i64 s.2.1, .int .i64 s.2.2] 23)).alloc (.cells #[] 23)) = w1 at *
  intro v2 w2 ho2 hb2 hg2
  have BX2 : Hid (Box w2 w.heap.size 23 [.int .i64 s.1, .int .i64 s.2.1, .int .i64 s.2.2]) := by
    unfold Hid Box
    rw [hg2.block w.heap.size BX0.out.lt (by simp [Value.ownBlock])]
    exact BX0.out
  have L2 : Hid (Later w w2) := hb2
  have O2 : Hid (w2.ownsRow w.heap.size 23 3 v2 k (sv L)) := by simpa [Hid] using ho2
  clear ho2 hb2 hg2 BX0 L0 O0 H0
  have d0 := BX2.out.cell 0
  have d1 := BX2.out.cell 1
  have d2 := BX2.out.cell 2
  go_wp2_with fail
  refine (rhas_c s w2 (HS.out.later L2.out)).mono ?_
  rintro e w3 ⟨rfl, hl3⟩
  have BX3 := hide (BX2.out.later hl3)
  have L3 := hide (L2.out.trans hl3)
  have O3 := hide (owns_later O2.out hl3)
  clear hl3 BX2 L2 O2 d0 d1 d2
  obtain ⟨a3, c3, rfl⟩ := (Rw.of_owns O3.out).shape
  cases hH : hasB L s with
  | true =>
    have hA : Hid (addL L s = L) := by unfold Hid addL; rw [hH]; rfl
    go_wp2
    go_ret
    refine ⟨_, rfl, L3.out, ?_⟩
    unfold SlO
    rw [hA.out, ← HK.out]
    exact O3.out
  | false =>
    have hc := fun r => ((Later.refl w3).drew.trans (later_rg w3.drew r))
    have a0 := fun r => (BX3.out.later (hc r)).cell 0
    have a1 := fun r => (BX3.out.later (hc r)).cell 1
    have a2 := fun r => (BX3.out.later (hc r)).cell 2
    go_wp2_with fail
    refine wp_region_sched [(0, false), (1, false), (2, false)] (by kernel_rfl) (by kernel_rfl) (by kernel_rfl) (by kernel_rfl) ?_
    iterate 1 (refine wpS_mild rfl (fun K hK => ?_); go_simp; refine hK _ ?_; clear hK K)
    refine wpS_call rfl (by kernel_rfl) 13 (Plain.of (by kernel_rfl)) [.const (.int .i64 6), .const (.int .i64 41), .const (.int .i64 0)] _ rfl [.int .i64 6, .int .i64 41, .int .i64 0] rfl (sval power) (fun wx hx => rof_c _ _ _ wx) ?_
    refine wpS_eqG rfl (by kernel_rfl) 23 _ (.tmp 13) (.tmp 14) rfl _ _ rfl rfl Try.guard_sense (s == power) (fun w => sense_eq s power w) ?_
    refine wpS_nil (fun wx hwx => ?_)
    have BX4 := hide (BX3.out.later ((Later.refl w3).drew.trans hwx))
    have L4 := hide (L3.out.drew.trans hwx)
    have O4 := hide (owns_later O3.out ((Later.refl w3).drew.trans hwx))
    clear a0 a1 a2 hc hwx BX3 L3 O3
    have d0 := BX4.out.cell 0
    have d1 := BX4.out.cell 1
    have d2 := BX4.out.cell 2
    cases hP : (s == power) with
    | true =>
      have hA : Hid (addL L s = [s]) := by unfold Hid addL; rw [hH, hP]; rfl
      have hO := hide (SlO.box wx s)
      go_wp2
      go_ret
      refine ⟨_, rfl, L4.out.alloc _, ?_⟩
      rw [hA.out]
      exact hO.out.rebase L4.out.size
    | false =>
      by_cases h4 : 4 ≤ k
      · have hA : Hid (addL L s = L) := by have hk := HK.out; unfold Hid addL; rw [if_neg (by simp [hH]), if_neg (by simp [hP]), if_pos (by omega)]
        go_wp2
        go_ret
        refine ⟨_, rfl, L4.out, ?_⟩
        unfold SlO
        rw [hA.out, ← HK.out]
        exact O4.out
      · have hA : Hid (addL L s = L ++ [s]) := by have hk := HK.out; unfold Hid addL; rw [if_neg (by simp [hH]), if_neg (by simp [hP]), if_neg (by omega)]
        have hR1 : Hid (Rw 3 (wx.alloc (.cells #[.int .i64 s.1, .int .i64 s.2.1, .int .i64 s.2.2] 23)) (.slice (some ⟨wx.heap.size, 0, none⟩) 1 1) 1 (sv [s])) := Rw.of_owns (SlO.box wx s)
        have O5 := hide (O4.out.alloc (.cells #[.int .i64 s.1, .int .i64 s.2.1, .int .i64 s.2.2] 23))
        have L5 := hide (L4.out.alloc (.cells #[.int .i64 s.1, .int .i64 s.2.1, .int .i64 s.2.2] 23))
        go_wp2_with (at_builtin; refine wpList_append_rw Try.elem_sense Try.underlying34 rfl (by decide) rfl (.tmp 22) (.tmp 24) rfl w.heap.size _ k (sv L) rfl O5.out _ 1 (sv [s]) rfl hR1.out (sv_one _) ?c1 ?c2 L5.out.size w L5.out ?_)
        case c1 => omega
        case c2 => unfold maxLen; omega
        intro v6 w6 ho6 hb6 hg6
        go_wp2
        go_ret
        refine ⟨_, rfl, hb6, ?_⟩
        unfold SlO
        rw [hA.out, sv_append, List.length_append, ← HK.out]
        exact ho6

def headS (L : List Sns) : Sns := L.headD (0, 0, 0)
set_option maxRecDepth 20000 in
set_option maxHeartbeats 1000000 in
theorem rfirst_c {v : Value} {L : List Sns} (w : World) (h : Sl w v L) (hn : L.length ≤ 1000) :
    Calls Try.prog 17 #[v] w fun e w' => ∃ v', e = .returned (.tuple #[sval (headS L), v']) ∧ Later w w' ∧ SlO w' w.heap.size v' L.tail := by
  obtain ⟨h, hok⟩ := h
  have BR := hide (Box.new w 23 #[.int .i64 0, .int .i64 0, .int .i64 0])
  have L0 := hide ((Later.refl w).alloc (.cells #[.int .i64 0, .int .i64 0, .int .i64 0] 23))
  cases L with
  | nil =>
    obtain ⟨ad, cap, rfl⟩ := h.shape
    clear h
    go_enter Try.func17, Try.ntmps17
    go_wp2
    exact bodyPost_ret (results_cell_tmp rfl _ _ _ w.heap.size 0 rfl (sval (0, 0, 0)) (.slice none 0 0) (run_loadVar_mid _ _ _ _ [.int .i64 0, .int .i64 0, .int .i64 0] _ BR.out.range Try.underlying23 rfl (by kernel_rfl)) rfl) rfl ⟨_, rfl, L0.out, World.ownsRow_nil _ _ _ _⟩
  | cons s M =>
    obtain ⟨m, hm⟩ : ∃ m, m = M.length := ⟨_, rfl⟩
    simp only [List.length_cons] at h hn
    rw [← hm] at h hn
    obtain ⟨ad, cap, rfl⟩ := h.shape
    have HL := hide h
    have HM := hide hm
    obtain ⟨b, off, e, hr⟩ := h.lies? (by omega)
    subst e
    have hcap : m + 1 ≤ cap := by
      obtain ⟨_, _, a, c, e, hc, _⟩ := h
      simp at e
      omega
    have hat := sv_at (s :: M) 0 (by simp)
    have c0 := hr _ _ hat.1
    have c1 := hr _ _ hat.2.1
    have c2 := hr _ _ hat.2.2
    simp only [Nat.zero_mul, Nat.add_zero, Nat.zero_add, List.getElem_cons_zero] at c0 c1 c2
    clear h hm hok hr hat
    go_enter Try.func17, Try.ntmps17
    have hbz : ((m : Int) + 1 == 0) = false := by rw [beq_eq_false_iff_ne]; omega
    go_wp2_with fail
    generalize (w.alloc (.cells #[.int .i64 0, .int .i64 0, .int .i64 0] 23)) = w1 at *
    have hc := fun r => ((Later.refl w1).drew.trans (later_rg w1.drew r))
    have g0 := fun r => (L0.out.trans (hc r)).cellOf c0
    have g1 := fun r => (L0.out.trans (hc r)).cellOf c1
    have g2 := fun r => (L0.out.trans (hc r)).cellOf c2
    refine wp_region_tree [0, 1, 2, 4, 5] [3, 6] [7, 8] (by kernel_rfl) (by kernel_rfl) (by kernel_rfl) (by kernel_rfl) ?_
    iterate 4 (refine wpT_mild rfl (fun K hK => ?_); go_simp; refine hK _ ?_; clear hK K)
    refine wpT_slice_lo Try.underlying34 Try.info_sense rfl (by kernel_rfl) (.tmp 12) (.const (.int .i64 1)) rfl _ (m + 1) cap rfl .i64 1 rfl (by omega) ?_
    have HT : Hid (Rw 3 w (Go.sliced (some ⟨b, off, none⟩) 1 (m + 1) cap 3) m (sv M)) := by
      have := HL.out.sliced 1 (m + 1) (by omega) (Nat.le_refl _)
      have e1 : m + 1 - 1 = m := by omega
      have e2 : ((sv (s :: M)).drop (1 * 3)).take (m * 3) = sv M := by
        rw [sv_drop]
        simp only [List.drop_succ_cons, List.drop_zero]
        exact List.take_of_length_le (by rw [sv_length, HM.out]; exact Nat.le_refl _)
      rw [e1, e2] at this
      exact this
    clear g0 g1 g2 hc c0 c1 c2
    generalize Go.sliced (some ⟨b, off, none⟩) 1 (m + 1) cap 3 = vt at *
    refine wpT_bag (fun i => match i with | 6 => [3] | _ => []) (fun i vals W => match i with
      | 3 => ∃ g, vals 3 = .slice (some ⟨g, 0, none⟩) 0 0 ∧ W.ownsRow w1.heap.size 23 3 (vals 3) 0 []
      | 6 => W.ownsRow w1.heap.size 23 3 (vals 6) m (sv M)
      | _ => True) (by kernel_rfl) ?b1 ?b2 ?b3 ?b4
    case b1 =>
      intro i hi vals W W' hl h
      simp only [List.mem_cons, List.not_mem_nil, or_false] at hi
      rcases hi with rfl | rfl
      · obtain ⟨g, h1, h2⟩ := h; exact ⟨g, h1, owns_later h2 hl⟩
      · exact owns_later h hl
    case b2 =>
      intro i hi k hk hne hds vals v W h
      simp only [List.mem_cons, List.not_mem_nil, or_false] at hi hk
      rcases hi with rfl | rfl <;> rcases hk with rfl | rfl <;> first | (exact absurd rfl hne) | (simpa [upd] using h) | (simp at hds)
    case b3 =>
      intro i hi vals W hl hdep
      have L1W := (Later.refl w1).drew.trans hl
      simp only [List.mem_cons, List.not_mem_nil, or_false] at hi
      rcases hi with rfl | rfl
      · refine lVal_step rfl (fun K hK => ?_)
        simp only [putAll, List.foldl]
        go_simp
        refine ⟨(Later.refl W).alloc _, hK _ _ ⟨W.heap.size, by simp [upd], ?_⟩⟩
        have := World.ownsRow_lit (base := w1.heap.size) (e := 23) (size := 3) W #[] 0 L1W.size (by simp [maxLen]) rfl
        simpa [upd] using this
      · obtain ⟨g, hg, ho⟩ := hdep 3 (by simp)
        rw [hg] at ho
        refine lVal_append_lit Try.elem_sense Try.underlying34 rfl (by decide) rfl rfl (.tmp 11) (.tmp 13) rfl w1.heap.size g ?_ ho L1W.size _ m (sv M) rfl (HT.out.later (L0.out.trans L1W)) (sv_one _) (by omega) ?_
        · show vals 3 = _
          exact hg
        · intro v' w' h
          simpa [upd] using h
    case b4 =>
      intro vals W hl hall
      have LW := (Later.refl w1).drew.trans hl
      have h6 : W.ownsRow w1.heap.size 23 3 (vals 6) m (sv M) := hall 6 (by simp)
      have BR3 := hide (BR.out.later LW)
      have L3 := hide (L0.out.trans LW)
      have hgt : w.heap.size < w1.heap.size := BR.out.lt
      clear hall hl LW
      generalize hv6 : vals 6 = v6 at *
      have O6 := hide h6
      clear h6
      have k0 := BR3.out.cell 0
      have k1 := BR3.out.cell 1
      have k2 := BR3.out.cell 2
      have f0 := BR3.out.frozen 0
      have f1 := BR3.out.frozen 1
      have f2 := BR3.out.frozen 2
      have BZ : Hid (Box (((W.setCell ⟨w.heap.size, 0, none⟩ (.int .i64 s.1)).setCell ⟨w.heap.size, 1, none⟩ (.int .i64 s.2.1)).setCell ⟨w.heap.size, 2, none⟩ (.int .i64 s.2.2)) w.heap.size 23 [.int .i64 s.1, .int .i64 s.2.1, .int .i64 s.2.2]) := ((BR3.out.set 0 _).set 1 _).set 2 _
      have LZ : Hid (Later w (((W.setCell ⟨w.heap.size, 0, none⟩ (.int .i64 s.1)).setCell ⟨w.heap.size, 1, none⟩ (.int .i64 s.2.1)).setCell ⟨w.heap.size, 2, none⟩ (.int .i64 s.2.2))) := ((L3.out.setCell (by simp) _).setCell (by simp) _).setCell (by simp) _
      have OZ : Hid ((((W.setCell ⟨w.heap.size, 0, none⟩ (.int .i64 s.1)).setCell ⟨w.heap.size, 1, none⟩ (.int .i64 s.2.1)).setCell ⟨w.heap.size, 2, none⟩ (.int .i64 s.2.2)).ownsRow w.heap.size 23 3 v6 m (sv M)) := by
        refine owns_rebase (B := w1.heap.size) (owns_kept O6.out fun g hg => ?_) (by omega)
        have h1 := (O6.out.lt g hg).1
        rw [heap_setCell_other _ _ _ _ (by simp; omega), heap_setCell_other _ _ _ _ (by simp; omega), heap_setCell_other _ _ _ _ (by simp; omega)]
      simp only [putAll, List.foldl, dstOf, hv6]
      refine wpL_cons rfl (fun K hK => ?_)
      go_simp
      refine hK _ _ ?_
      clear hK K
      refine wpL_cons rfl (fun K hK => ?_)
      go_simp
      refine hK _ _ (wpL_nil ?_)
      clear hK K k0 k1 k2 f0 f1 f2
      go_wp2
      refine bodyPost_ret (results_cell_tmp rfl _ _ _ w.heap.size 0 rfl (sval s) v6 (run_loadVar_mid _ _ _ _ [.int .i64 s.1, .int .i64 s.2.1, .int .i64 s.2.2] _ BZ.out.range Try.underlying23 rfl (by kernel_rfl)) rfl) rfl ⟨v6, rfl, LZ.out, ?_⟩
      unfold SlO
      simp only [List.tail_cons]
      rw [← HM.out]
      exact OZ.out
end Go.Proofs.Ytfefnkeognccpaa
