import Derived.Test.YtfakboehmcimpaaGreatMAH
namespace Go.Proofs.YtfakboehmcimpaaGreat
open Go.ChangeShapes Go.WideShapes Go.ChangeAt Go.RowKit
set_option linter.unusedVariables false
set_option maxRecDepth 4000
set_option linter.unusedSimpArgs false
/-! The document's answers for lists of senses. -/
def hasB (L : List Sns) (s : Sns) : Bool := L.any (· == s)
set_option maxHeartbeats 1000000 in
theorem rhas_c {v : Value} {L : List Sns} (s : Sns) (w : World) (h : Sl w v L) :
    Calls Tryz.prog 117 #[v, sval s] w fun e w' => e = .returned (.bool (hasB L s)) ∧ Later w w' := by
  obtain ⟨h, hok⟩ := h
  obtain ⟨k, hk⟩ : ∃ k, k = L.length := ⟨_, rfl⟩
  rw [← hk] at h
  obtain ⟨ad, cap, rfl⟩ := h.shape
  have hkm := h.2.1
  unfold maxLen at hkm
  have HL := hide h
  have HK := hide hk
  clear h hk hok
  have BX0 := hide (Box.new w 30 #[.int .i64 s.1, .int .i64 s.2.1, .int .i64 s.2.2])
  have L0 := hide ((Later.refl w).alloc (.cells #[.int .i64 s.1, .int .i64 s.2.1, .int .i64 s.2.2] 30))
  go_enter Tryz.func117, Tryz.ntmps117
  go_wp2_with fail
  go_loopw [5] (fun i wr => ∃ q : Nat, q ≤ k ∧ i = .int .i64 q ∧ Hid (∀ j (hj : j < L.length), j < q → (L[j] == s) = false) ∧ Hid (Box wr w.heap.size 30 [.int .i64 s.1, .int .i64 s.2.1, .int .i64 s.2.2]) ∧ Hid (Later w wr)) (fun i _ => k - (intOf i).toNat)
  case atStart => exact ⟨0, Nat.zero_le _, rfl, fun _ _ h => by omega, BX0, L0⟩
  case round =>
    clear BX0 L0
    obtain ⟨q, hq, rfl, hall, hbx, hl⟩ := hrel
    by_cases hlt : q < k
    · obtain ⟨b, off, e, hr⟩ := (HL.out.later hl.out).lies? (by omega)
      subst e
      have hqL : q < L.length := by have := HK.out; omega
      have hat := sv_at L q hqL
      have c0 := hr _ _ hat.1
      have c1 := hr _ _ hat.2.1
      have c2 := hr _ _ hat.2.2
      have hyes : Hid ((L[q] == s) = true → hasB L s = true) := fun h => by
        rw [hasB, List.any_eq_true]; exact ⟨_, List.getElem_mem hqL, h⟩
      have hno : Hid ((L[q] == s) = false → ∀ j (hj : j < L.length), j < q + 1 → (L[j] == s) = false) := by
        intro h j hj hjq
        by_cases hjq' : j = q
        · subst hjq'; exact h
        · exact hall.out j hj (by omega)
      generalize L[q] = t at *
      clear hat hr hall
      rw [← Nat.add_assoc] at c1 c2
      have hc := fun r => ((Later.refl wr).drew.trans (later_rg wr.drew r))
      have a0 := fun r => (hc r).cellOf c0
      have a1 := fun r => (hc r).cellOf c1
      have a2 := fun r => (hc r).cellOf c2
      have x0 := fun r => (hbx.out.later (hc r)).cell 0
      have x1 := fun r => (hbx.out.later (hc r)).cell 1
      have x2 := fun r => (hbx.out.later (hc r)).cell 2
      go_wp2_with fail
      refine wp_region_sched ((List.range 6).map fun i => (i, false)) (by kernel_rfl) (by kernel_rfl) (by kernel_rfl) (by kernel_rfl) ?_
      simp only [List.range, List.range.loop, List.map]
      iterate 5 (refine wpS_mild rfl (fun K hK => ?_); go_simp; refine hK _ ?_; clear hK K)
      refine wpS_eqG rfl (by kernel_rfl) 30 _ (.tmp 15) (.tmp 16) rfl _ _ rfl rfl Tryz.guard_sense (t == s) (fun w => sense_eq t s w) ?_
      refine wpS_nil (fun wx hwx => ?_)
      have Lx := hide (hl.out.drew.trans hwx)
      have Bx := hide (Box.later hbx.out ((Later.refl wr).drew.trans hwx))
      clear a0 a1 a2 x0 x1 x2 c0 c1 c2 hc hwx hl hbx
      cases hts : (t == s) with
      | true =>
        rw [hts] at hyes
        go_wp2
        go_ret
        exact ⟨ret_bool (hyes.out (by simp)).symm, Lx.out⟩
      | false =>
        rw [hts] at hno
        go_wp2
        go_roundw
        case rel => exact ⟨q + 1, by omega, by go_num, hno.out (by simp), Bx, Lx⟩
        case measure => simp [intOf]; omega
    · go_wp2
      go_ret
      refine ⟨ret_bool ?_, hl.out⟩
      have hk := HK.out
      symm
      rw [hasB, List.any_eq_false]
      intro x hx
      obtain ⟨j, hj, rfl⟩ := List.mem_iff_getElem.1 hx
      simp [hall.out j hj (by omega)]
set_option maxHeartbeats 1000000 in
theorem rsame4_c {u v : Value} {L M : List Sns} (w : World) (hu : Sl w u L) (hv : Sl w v M) :
    Calls Tryz.prog 47 #[u, v] w fun e w' => e = .returned (.bool (L == M)) ∧ Later w w' := by
  obtain ⟨hu, hou⟩ := hu
  obtain ⟨hv, hov⟩ := hv
  obtain ⟨k, hk⟩ : ∃ k, k = L.length := ⟨_, rfl⟩
  obtain ⟨m, hm⟩ : ∃ m, m = M.length := ⟨_, rfl⟩
  rw [← hk] at hu
  rw [← hm] at hv
  obtain ⟨au, cu, rfl⟩ := hu.shape
  obtain ⟨av, cv, rfl⟩ := hv.shape
  have hkm := hu.2.1
  have hmm := hv.2.1
  unfold maxLen at hkm hmm
  have HU := hide hu
  have HV := hide hv
  have HK := hide hk
  have HMm := hide hm
  clear hu hv hk hm hou hov
  generalize hR : (L == M) = r
  have HR := hide hR
  clear hR
  by_cases hkne : k = m
  case neg =>
    have hb : ((k : Int) != (m : Int)) = true := by rw [bne_iff_ne]; omega
    have hrf : Hid (r = false) := by
      unfold Hid
      rw [← HR.out, beq_eq_false_iff_ne]
      intro h
      have h1 := HK.out
      have h2 := HMm.out
      rw [h] at h1
      omega
    clear HR
    go_enter Tryz.func47, Tryz.ntmps47
    go_wp2
    go_ret
    exact ⟨ret_bool hrf.out.symm, Later.refl w⟩
  subst hkne
  have hb : ((k : Int) != (k : Int)) = false := by simp
  go_enter Tryz.func47, Tryz.ntmps47
  go_wp2_with fail
  go_loopw [5] (fun i wr => ∃ q : Nat, q ≤ k ∧ i = .int .i64 q ∧ Hid (L.take q = M.take q) ∧ Hid (Later w wr)) (fun i _ => k - (intOf i).toNat)
  case atStart => exact ⟨0, Nat.zero_le _, rfl, by simp [Hid], Later.refl w⟩
  case round =>
    obtain ⟨q, hq, rfl, hall, hl⟩ := hrel
    by_cases hlt : q < k
    · obtain ⟨b, off, e, hr⟩ := (HU.out.later hl.out).lies? (by omega)
      subst e
      obtain ⟨b2, off2, e, hr2⟩ := (HV.out.later hl.out).lies? (by omega)
      subst e
      have hqL : q < L.length := by have := HK.out; omega
      have hqM : q < M.length := by have := HMm.out; omega
      have hat := sv_at L q hqL
      have c0 := hr _ _ hat.1
      have c1 := hr _ _ hat.2.1
      have c2 := hr _ _ hat.2.2
      have hat2 := sv_at M q hqM
      have e0 := hr2 _ _ hat2.1
      have e1 := hr2 _ _ hat2.2.1
      have e2 := hr2 _ _ hat2.2.2
      have hyes : Hid ((L[q] == M[q]) = true → L.take (q + 1) = M.take (q + 1)) := fun h => by
        rw [List.take_succ_eq_append_getElem hqL, List.take_succ_eq_append_getElem hqM, hall.out, eq_of_beq h]
      have hno : Hid ((L[q] == M[q]) = false → r = false) := fun h => by
        rw [← HR.out, beq_eq_false_iff_ne]
        intro h2
        subst h2
        simp at h
      generalize L[q] = t at *
      generalize M[q] = t2 at *
      clear hat hat2 hr hr2 hall
      rw [← Nat.add_assoc] at c1 c2 e1 e2
      have hc := fun r => ((Later.refl wr).drew.trans (later_rg wr.drew r))
      have a0 := fun r => (hc r).cellOf c0
      have a1 := fun r => (hc r).cellOf c1
      have a2 := fun r => (hc r).cellOf c2
      have x0 := fun r => (hc r).cellOf e0
      have x1 := fun r => (hc r).cellOf e1
      have x2 := fun r => (hc r).cellOf e2
      go_wp2_with fail
      refine wp_region_sched ((List.range 9).map fun i => (i, false)) (by kernel_rfl) (by kernel_rfl) (by kernel_rfl) (by kernel_rfl) ?_
      simp only [List.range, List.range.loop, List.map]
      iterate 8 (refine wpS_mild rfl (fun K hK => ?_); go_simp; refine hK _ ?_; clear hK K)
      refine wpS_neqG rfl (by kernel_rfl) 30 _ (.tmp 20) (.tmp 24) rfl _ _ rfl rfl Tryz.guard_sense (t == t2) (fun w => sense_eq t t2 w) ?_
      refine wpS_nil (fun wx hwx => ?_)
      have Lx := hide (hl.out.drew.trans hwx)
      clear a0 a1 a2 x0 x1 x2 c0 c1 c2 e0 e1 e2 hc hwx hl
      cases hts : (t == t2) with
      | true =>
        rw [hts] at hyes
        go_wp2
        go_roundw
        case rel => exact ⟨q + 1, by omega, by go_num, hyes.out (by simp), Lx⟩
        case measure => simp [intOf]; omega
      | false =>
        rw [hts] at hno
        go_wp2
        go_ret
        exact ⟨ret_bool (hno.out (by simp)).symm, Lx.out⟩
    · go_wp2
      go_ret
      refine ⟨ret_bool ?_, hl.out⟩
      have hk := HK.out
      have hm := HMm.out
      have := hall.out
      rw [List.take_of_length_le (by omega), List.take_of_length_le (by omega)] at this
      rw [← HR.out, this]
      simp
end Go.Proofs.YtfakboehmcimpaaGreat

namespace Go.Proofs.YtfakboehmcimpaaGreat
open Go.ChangeShapes Go.WideShapes Go.ChangeAt Go.RowKit
set_option linter.unusedVariables false
set_option maxRecDepth 4000
set_option linter.unusedSimpArgs false
/-! The document's answers for lists of senses: Add, First. -/
def power : Sns := (6, 41, 0)
def addL (L : List Sns) (s : Sns) : List Sns := if hasB L s then L else if s == power then [s] else if 4 ≤ L.length then L else L ++ [s]
theorem addL_ok {L : List Sns} {s : Sns} (h : ∀ x ∈ L, OkS x) (hs : OkS s) : ∀ x ∈ addL L s, OkS x := by
  intro x hx
  unfold addL at hx
  split at hx
  · exact h x hx
  · split at hx
    · simp at hx; rw [hx]; exact hs
    · split at hx
      · exact h x hx
      · rcases List.mem_append.1 hx with hx | hx
        · exact h x hx
        · simp at hx; rw [hx]; exact hs
/-- a list in one's own memory -/
def SlO (w : World) (B : Nat) (v : Value) (L : List Sns) : Prop := w.ownsRow B 30 3 v L.length (sv L)
theorem SlO.sl {w : World} {B : Nat} {v : Value} {L : List Sns} (h : SlO w B v L) (ho : ∀ s ∈ L, OkS s) : Sl w v L := ⟨Rw.of_owns h, ho⟩
theorem SlO.rebase {w : World} {B B' : Nat} {v : Value} {L : List Sns} (h : SlO w B v L) (hb : B' ≤ B) : SlO w B' v L := owns_rebase h hb
theorem SlO.box (w : World) (s : Sns) : SlO (w.alloc (.cells #[.int .i64 s.1, .int .i64 s.2.1, .int .i64 s.2.2] 30)) w.heap.size (.slice (some ⟨w.heap.size, 0, none⟩) 1 1) [s] := by
  have := World.ownsRow_lit (base := w.heap.size) (e := 30) (size := 3) w #[.int .i64 s.1, .int .i64 s.2.1, .int .i64 s.2.2] 1 (Nat.le_refl _) (by simp [maxLen]) rfl
  unfold SlO
  rw [sv_single]
  exact this
set_option maxRecDepth 20000 in
set_option maxHeartbeats 1000000 in
theorem radd_c {v : Value} {L : List Sns} (s : Sns) (w : World) (h : Sl w v L) (hn : L.length ≤ 1000) :
    Calls Tryz.prog 84 #[v, sval s] w fun e w' => ∃ v', e = .returned v' ∧ Later w w' ∧ SlO w' w.heap.size v' (addL L s) := by
  have HS := hide h
  obtain ⟨h, hok⟩ := h
  obtain ⟨k, hk⟩ : ∃ k, k = L.length := ⟨_, rfl⟩
  rw [← hk] at h hn
  obtain ⟨ad, cap, rfl⟩ := h.shape
  have HL := hide h
  have HK := hide hk
  clear h hk hok
  have BX0 := hide ((Box.new w 30 #[.int .i64 s.1, .int .i64 s.2.1, .int .i64 s.2.2]).alloc (.cells #[] 30))
  have L0 := hide (((Later.refl w).alloc (.cells #[.int .i64 s.1, .int .i64 s.2.1, .int .i64 s.2.2] 30)).alloc (.cells #[] 30))
  have O0 : Hid (((w.alloc (.cells #[.int .i64 s.1, .int .i64 s.2.1, .int .i64 s.2.2] 30)).alloc (.cells #[] 30)).ownsRow w.heap.size 30 3 (.slice (some ⟨w.heap.size + 1, 0, none⟩) 0 0) 0 []) := by
    have := World.ownsRow_lit (base := w.heap.size) (e := 30) (size := 3) (w.alloc (.cells #[.int .i64 s.1, .int .i64 s.2.1, .int .i64 s.2.2] 30)) #[] 0 (by simp) (by simp [maxLen]) rfl
    simpa [Hid] using this
  have H0 := hide (HL.out.later L0.out)
  go_enter Tryz.func84, Tryz.ntmps84
  go_wp2_with (at_builtin; refine wpList_append_rw Tryz.elem_sense Tryz.underlying28 rfl (by decide) rfl (.tmp 6) (.tmp 7) rfl w.heap.size _ 0 [] rfl O0.out _ k (sv L) rfl H0.out (sv_one L) ?c1 ?c2 ?c3 w L0.out ?_)
  case c1 => omega
  case c2 => unfold maxLen; omega
  case c3 => omega
  generalize ((w.alloc (.cells #[.int .i64 s.1, .int .i64 s.2.1, .int .i64 s.2.2] 30)).alloc (.cells #[] 30)) = w1 at *
  intro v2 w2 ho2 hb2 hg2
  have BX2 : Hid (Box w2 w.heap.size 30 [.int .i64 s.1, .int .i64 s.2.1, .int .i64 s.2.2]) := by
    unfold Hid Box
    rw [hg2.block w.heap.size BX0.out.lt (by simp [Value.ownBlock])]
    exact BX0.out
  have L2 : Hid (Later w w2) := hb2
  have O2 : Hid (w2.ownsRow w.heap.size 30 3 v2 k (sv L)) := by simpa [Hid] using ho2
  clear ho2 hb2 hg2 BX0 L0 O0 H0
  have d0 := BX2.out.cell 0
  have d1 := BX2.out.cell 1
  have d2 := BX2.out.cell 2
  go_wp2_with fail
  refine (rhas_c s w2 (HS.out.later L2.out)).mono ?_
  rintro e w3 ⟨rfl, hl3⟩
  have BX3 := hide (BX2.out.later hl3)
  have L3 := hide (L2.out.trans hl3)
  have O3 := hide (owns_later O2.out hl3)
  clear hl3 BX2 L2 O2 d0 d1 d2
  obtain ⟨a3, c3, rfl⟩ := (Rw.of_owns O3.out).shape
  cases hH : hasB L s with
  | true =>
    have hA : Hid (addL L s = L) := by unfold Hid addL; rw [hH]; rfl
    go_wp2
    go_ret
    refine ⟨_, rfl, L3.out, ?_⟩
    unfold SlO
    rw [hA.out, ← HK.out]
    exact O3.out
  | false =>
    have hc := fun r => ((Later.refl w3).drew.trans (later_rg w3.drew r))
    have a0 := fun r => (BX3.out.later (hc r)).cell 0
    have a1 := fun r => (BX3.out.later (hc r)).cell 1
    have a2 := fun r => (BX3.out.later (hc r)).cell 2
    go_wp2_with fail
    refine wp_region_sched [(0, false), (1, false), (2, false)] (by kernel_rfl) (by kernel_rfl) (by kernel_rfl) (by kernel_rfl) ?_
    iterate 1 (refine wpS_mild rfl (fun K hK => ?_); go_simp; refine hK _ ?_; clear hK K)
    refine wpS_call rfl (by kernel_rfl) 12 (Plain.of (by kernel_rfl)) [.const (.int .i64 6), .const (.int .i64 41), .const (.int .i64 0)] _ rfl [.int .i64 6, .int .i64 41, .int .i64 0] rfl (sval power) (fun wx hx => rof_c _ _ _ wx) ?_
    refine wpS_eqG rfl (by kernel_rfl) 30 _ (.tmp 13) (.tmp 14) rfl _ _ rfl rfl Tryz.guard_sense (s == power) (fun w => sense_eq s power w) ?_
    refine wpS_nil (fun wx hwx => ?_)
    have BX4 := hide (BX3.out.later ((Later.refl w3).drew.trans hwx))
    have L4 := hide (L3.out.drew.trans hwx)
    have O4 := hide (owns_later O3.out ((Later.refl w3).drew.trans hwx))
    clear a0 a1 a2 hc hwx BX3 L3 O3
    have d0 := BX4.out.cell 0
    have d1 := BX4.out.cell 1
    have d2 := BX4.out.cell 2
    cases hP : (s == power) with
    | true =>
      have hA : Hid (addL L s = [s]) := by unfold Hid addL; rw [hH, hP]; rfl
      have hO := hide (SlO.box wx s)
      go_wp2
      go_ret
      refine ⟨_, rfl, L4.out.alloc _, ?_⟩
      rw [hA.out]
      exact hO.out.rebase L4.out.size
    | false =>
      by_cases h4 : 4 ≤ k
      · have hA : Hid (addL L s = L) := by have hk := HK.out; unfold Hid addL; rw [if_neg (by simp [hH]), if_neg (by simp [hP]), if_pos (by omega)]
        go_wp2
        go_ret
        refine ⟨_, rfl, L4.out, ?_⟩
        unfold SlO
        rw [hA.out, ← HK.out]
        exact O4.out
      · have hA : Hid (addL L s = L ++ [s]) := by have hk := HK.out; unfold Hid addL; rw [if_neg (by simp [hH]), if_neg (by simp [hP]), if_neg (by omega)]
        have hR1 : Hid (Rw 3 (wx.alloc (.cells #[.int .i64 s.1, .int .i64 s.2.1, .int .i64 s.2.2] 30)) (.slice (some ⟨wx.heap.size, 0, none⟩) 1 1) 1 (sv [s])) := Rw.of_owns (SlO.box wx s)
        have O5 := hide (O4.out.alloc (.cells #[.int .i64 s.1, .int .i64 s.2.1, .int .i64 s.2.2] 30))
        have L5 := hide (L4.out.alloc (.cells #[.int .i64 s.1, .int .i64 s.2.1, .int .i64 s.2.2] 30))
        go_wp2_with (at_builtin; refine wpList_append_rw Tryz.elem_sense Tryz.underlying28 rfl (by decide) rfl (.tmp 22) (.tmp 24) rfl w.heap.size _ k (sv L) rfl O5.out _ 1 (sv [s]) rfl hR1.out (sv_one _) ?c1 ?c2 L5.out.size w L5.out ?_)
        case c1 => omega
        case c2 => unfold maxLen; omega
        intro v6 w6 ho6 hb6 hg6
        go_wp2
        go_ret
        refine ⟨_, rfl, hb6, ?_⟩
        unfold SlO
        rw [hA.out, sv_append, List.length_append, ← HK.out]
        exact ho6
end Go.Proofs.YtfakboehmcimpaaGreat

namespace Go.Proofs.YtfakboehmcimpaaGreat
open Go.ChangeShapes Go.WideShapes Go.ChangeAt Go.RowKit
set_option linter.unusedVariables false
set_option maxRecDepth 4000
set_option linter.unusedSimpArgs false
/-! Slots. Variables that hold no numbers lie apart from rows of numbers. -/
def NoInts (cs : List Value) : Prop := ∀ c ∈ cs, ∀ k z, c ≠ .int k z
def Ints (xs : List Value) : Prop := ∀ x ∈ xs, ∃ k z, x = .int k z
theorem bv_ints (l : List UInt8) : Ints (bv l) := fun x hx => by
  obtain ⟨b, _, rfl⟩ := List.mem_map.1 hx
  exact ⟨_, _, rfl⟩
theorem dv_ints (D : List Drt) : Ints (dv D) := fun x hx => by
  simp only [dv, List.mem_flatMap] at hx
  obtain ⟨d, _, hd⟩ := hx
  rcases List.mem_cons.1 hd with e | h
  · exact ⟨_, _, e⟩
  · exact bv_ints _ x h
theorem Rw.setBox {sz : Nat} {w : World} {v : Value} {n : Nat} {xs : List Value} {g : Nat} {ty : TypeId} {cs : List Value} (h : Rw sz w v n xs) (hx : Ints xs) (hB : Box w g ty cs) (hc : NoInts cs) (vs : List Value) (o : Nat) : Rw sz (w.setCells g o vs) v n xs := by
  obtain ⟨h1, h2, a, cap, rfl, hcap, h3⟩ := h
  refine ⟨h1, h2, a, cap, rfl, hcap, ?_⟩
  rcases h3 with h3 | ⟨b, off, rfl, hr⟩
  · exact .inl h3
  · refine .inr ⟨b, off, rfl, fun j u hu => ?_⟩
    have h4 := hr j u hu
    have hne : b ≠ g := fun e => by
      subst e
      rw [hB.cell] at h4
      obtain ⟨k, z, e⟩ := hx u (List.mem_of_getElem? hu)
      exact hc u (List.mem_of_getElem? h4) k z e
    rw [← h4]
    simp only [World.cell?, heap_setCells_other w g b hne]
theorem Med.setBox {w : World} {v : Value} {n : Nat} {F : List UInt8} {D : List Drt} {g : Nat} {ty : TypeId} {cs : List Value} (h : Med w v n F D) (hB : Box w g ty cs) (hc : NoInts cs) (vs : List Value) (o : Nat) : Med (w.setCells g o vs) v n F D := by
  obtain ⟨vb, vd, rfl, hb, hd, ho⟩ := h
  exact ⟨vb, vd, rfl, hb.setBox (bv_ints F) hB hc vs o, hd.setBox (dv_ints D) hB hc vs o, ho⟩
/-- a slot's cells -/
abbrev tc (vb vd : Value) (p r l : Bool) : List Value := [vb, vd, .bool p, .bool r, .bool l]
def Slt (w : World) (v : Value) (n : Nat) (F : List UInt8) (D : List Drt) (p r l : Bool) : Prop :=
  ∃ ab cb aD k cD, v = .agg #[.slice ab n cb, .slice aD k cD, .bool p, .bool r, .bool l] ∧ Med w (.agg #[.slice ab n cb, .slice aD k cD]) n F D
def OffT (g : Nat) (v : Value) : Prop := ∃ a b p r l, v = .agg #[a, b, .bool p, .bool r, .bool l] ∧ OffS g a ∧ OffS g b
/-- what comes out lies in what came in, or in new memory -/
def NewT (w : World) (v v' : Value) : Prop := ∀ g, g < w.heap.size → OffT g v → OffT g v'
theorem tc_noints (a b : Option Addr) (n m c d : Nat) (p r l : Bool) : NoInts (tc (.slice a n c) (.slice b m d) p r l) := by
  intro x hx k z
  simp at hx
  rcases hx with rfl | rfl | rfl | rfl | rfl <;> simp
theorem tc_one (a b : Option Addr) (n m c d : Nat) (p r l : Bool) : ∀ u ∈ tc (.slice a n c) (.slice b m d) p r l, u.oneCell' = true := by
  intro x hx
  simp at hx
  rcases hx with rfl | rfl | rfl | rfl | rfl <;> rfl
theorem Slt.later {w w' : World} {v : Value} {n : Nat} {F : List UInt8} {D : List Drt} {p r l : Bool} (h : Slt w v n F D p r l) (hl : Later w w') : Slt w' v n F D p r l := by
  obtain ⟨ab, cb, aD, k, cD, rfl, hm⟩ := h
  exact ⟨ab, cb, aD, k, cD, rfl, hm.later hl⟩
theorem Slt.old {w : World} {v : Value} {n : Nat} {F : List UInt8} {D : List Drt} {p r l : Bool} (h : Slt w v n F D p r l) {g : Nat} (hg : w.heap.size ≤ g) : OffT g v := by
  obtain ⟨ab, cb, aD, k, cD, rfl, hm⟩ := h
  obtain ⟨vb, vd, e, h1, h2, _⟩ := hm
  simp at e
  obtain ⟨rfl, rfl⟩ := e
  exact ⟨_, _, _, _, _, rfl, h1.old (by decide) hg, h2.old (by decide) hg⟩
theorem Tryz.info_slot : (Tryz.prog.info? 27).map (·.size) = some 5 := by kernel_rfl
theorem Tryz.zero_slot : (Tryz.prog.info? 27).map (fun i => (i.zero, i.size)) = some (some (.agg #[.slice none 0 0, .slice none 0 0, .bool false, .bool false, .bool false]), 5) := by kernel_rfl
/-- a slot is laid into the variable of the result -/
theorem slot_set {w w8 : World} {R : Nat} {a b : Option Addr} {n m c d n' : Nat} {p r l : Bool} {F : List UInt8} {D : List Drt} {cs : List Value} (hR : w.heap.size ≤ R) (hB : Box w8 R 27 cs) (hn : NoInts cs) (hl5 : cs.length = 5) (hl : Later w w8) (hm : Med w8 (.agg #[.slice a n c, .slice b m d]) n' F D) :
    Box (w8.setCells R 0 (tc (.slice a n c) (.slice b m d) p r l)) R 27 (tc (.slice a n c) (.slice b m d) p r l) ∧ Later w (w8.setCells R 0 (tc (.slice a n c) (.slice b m d) p r l)) ∧ Med (w8.setCells R 0 (tc (.slice a n c) (.slice b m d) p r l)) (.agg #[.slice a n c, .slice b m d]) n' F D :=
  ⟨hB.all _ (by simp [hl5]), hl.setCells hR _ 0, hm.setBox hB hn _ 0⟩
theorem Slt.mk' {w : World} {a b : Option Addr} {n m c d n' : Nat} {F : List UInt8} {D : List Drt} (p r l : Bool) (hm : Med w (.agg #[.slice a n c, .slice b m d]) n' F D) : Slt w (.agg #[.slice a n c, .slice b m d, .bool p, .bool r, .bool l]) n' F D p r l := by
  obtain ⟨vb, vd, e, h1, h2, h3⟩ := hm
  simp at e
  obtain ⟨rfl, rfl⟩ := e
  have : n = n' := by
    obtain ⟨a', c', e'⟩ := h1.shape
    simp at e'
    exact e'.2.1
  subst this
  exact ⟨a, c, b, m, d, rfl, _, _, rfl, h1, h2, h3⟩
theorem shut5 {w : World} {R : Nat} {cs : List Value} (h : Box w R 27 cs) (hl : cs.length = 5) : (loadVar 27 ⟨R, 0, none⟩).run Tryz.prog w = .ok (.agg cs.toArray) w :=
  run_loadVar_mid _ _ _ _ cs _ h.range Tryz.underlying27 rfl (by rw [Tryz.info_slot, hl])
/-- a store into the parameter's variable: it turns, the result's stays, the medium stays -/
theorem tri_set {w w3 : World} {gX gR : Nat} {tR : TypeId} {cs cr : List Value} {v : Value} {n : Nat} {F : List UInt8} {D : List Drt} (hX : w.heap.size ≤ gX) (hne : gX ≠ gR) (BX : Box w3 gX 27 cs) (hn : NoInts cs) (BR : Box w3 gR tR cr) (L : Later w w3) (M : Med w3 v n F D) (vs : List Value) (o : Nat) (ho : o + vs.length ≤ cs.length) :
    Box (w3.setCells gX o vs) gX 27 (cs.take o ++ vs ++ cs.drop (o + vs.length)) ∧ Box (w3.setCells gX o vs) gR tR cr ∧ Later w (w3.setCells gX o vs) ∧ Med (w3.setCells gX o vs) v n F D :=
  ⟨BX.setCells vs o ho, BR.kept (heap_setCells_other w3 gX gR (fun e => hne e.symm) _ _), L.setCells hX vs o, M.setBox BX hn vs o⟩
theorem Rw.setOff {sz : Nat} {w : World} {v : Value} {n : Nat} {xs : List Value} {g : Nat} (h : Rw sz w v n xs) (hx : OffS g v) (vs : List Value) (o : Nat) : Rw sz (w.setCells g o vs) v n xs := by
  obtain ⟨h1, h2, a, cap, rfl, hcap, h3⟩ := h
  refine ⟨h1, h2, a, cap, rfl, hcap, ?_⟩
  rcases h3 with h3 | ⟨b, off, rfl, hr⟩
  · exact .inl h3
  · rcases hx with hx | hx
    · exact .inl hx
    · refine .inr ⟨b, off, rfl, fun j u hu => ?_⟩
      rw [← hr j u hu]
      simp only [World.cell?, heap_setCells_other w g b (fun e => hx e)]
theorem Slt.setOff {w : World} {v : Value} {n : Nat} {F : List UInt8} {D : List Drt} {p r l : Bool} {g : Nat} (h : Slt w v n F D p r l) (hx : OffT g v) (vs : List Value) (o : Nat) : Slt (w.setCells g o vs) v n F D p r l := by
  obtain ⟨ab, cb, aD, k, cD, rfl, hm⟩ := h
  obtain ⟨a, b, p', r', l', e, o1, o2⟩ := hx
  simp at e
  obtain ⟨rfl, rfl, _⟩ := e
  obtain ⟨vb, vd, e, h1, h2, h3⟩ := hm
  simp at e
  obtain ⟨rfl, rfl⟩ := e
  exact ⟨ab, cb, aD, k, cD, rfl, _, _, rfl, h1.setOff o1 vs o, h2.setOff o2 vs o, h3⟩
/-- two results, each in a variable of its own -/
theorem results_cell_cell' {fn : Func} {p q : Tmp} {ty ty' : TypeId} (h : fn.results = #[.cell p ty, .cell q ty']) (tmps : Array Value) (P : Program) (w : World) (b o b' o' : Nat) (hp : tmps.getD p undef = .pointer (some ⟨b, o, none⟩)) (hq : tmps.getD q undef = .pointer (some ⟨b', o', none⟩)) (v u : Value) (hl : (loadVar ty ⟨b, o, none⟩).run P w = .ok v w) (hl' : (loadVar ty' ⟨b', o', none⟩).run P w = .ok u w) :
    (results fn tmps).run P w = .ok (.tuple #[v, u]) w := by
  have ha : (asAddr (tmps.getD p undef)).run P w = .ok ⟨b, o, none⟩ w := by rw [hp]; rfl
  have hb : (asAddr (tmps.getD q undef)).run P w = .ok ⟨b', o', none⟩ w := by rw [hq]; rfl
  simp only [results, h]
  simp only [List.mapM_toArray, Sem.run_bind]
  simp [ha, hl, hb, hl', -Array.getD_eq_getD_getElem?]
theorem shut3 {w : World} {R : Nat} {s : Sns} (h : Box w R 30 (sc s)) : (loadVar 30 ⟨R, 0, none⟩).run Tryz.prog w = .ok (sval s) w :=
  run_loadVar_mid _ _ _ _ (sc s) _ h.range Tryz.underlying30 rfl Tryz.info_sense
/-- a store of a struct into a variable of whatever type; the world behind it gets a name -/
theorem wpList_storeT {P : Program} {w : World} {ops : Array Oper} {rest : List Oper} {op : Oper} {a : Act} {Q : Exit → Act → World → Prop} (hgd : op.guard = none) (ty : TypeId) (x y : Operand) (ho : op.op = .store ty x y) (g o : Nat) (hx : a.eval x = .pointer (some ⟨g, o, none⟩)) (vs : List Value) (hy : a.eval y = .agg vs.toArray)
    (hi : (P.info? ty).map (·.size) = some vs.length) (h1 : ∀ u ∈ vs, u.oneCell' = true) (t : TypeId) (cs : List Value) (hB : Box w g t cs) (hl : o + vs.length ≤ cs.length)
    (h : ∀ w', Hid (w' = w.setCells g o vs) → wpList P ops Q rest (a.put op.dst undef) w') : wpList P ops Q (op :: rest) a w :=
  wpList_store_mid hgd ty x y ho g o vs.toArray hx hy (by simpa using hB.there o vs.length hl) (by simpa using hi) (all_oneCell_toArray h1) (h _ rfl)
/-- a store of one cell -/
theorem wpList_storeC {P : Program} {w : World} {ops : Array Oper} {rest : List Oper} {op : Oper} {a : Act} {Q : Exit → Act → World → Prop} (hgd : op.guard = none) (ty : TypeId) (x y : Operand) (ho : op.op = .store ty x y) (g o : Nat) (hx : a.eval x = .pointer (some ⟨g, o, none⟩)) (b : Bool) (hy : a.eval y = .bool b)
    (hs : (P.info? ty).map (·.size) = some 1) (t : TypeId) (cs : List Value) (hB : Box w g t cs) (hl : o < cs.length)
    (h : ∀ w', Hid (w' = w.setCells g o [.bool b]) → wpList P ops Q rest (a.put op.dst undef) w') : wpList P ops Q (op :: rest) a w := by
  refine wpList_plain hgd fun K hK => ?_
  have hc : w.cell? ⟨g, o, none⟩ = some (cs[o]'hl) := by rw [hB.cell o, List.getElem?_eq_getElem hl]
  have hf := hB.frozen o
  have hrun : (Instr.storeAt ty (.pointer (some ⟨g, o, none⟩)) (.bool b)).run P w = .ok () (w.setCells g o [.bool b]) := by
    simp [Instr.storeAt, Instr.sureAddr, storeVar, run_size hs, Value.cells, World.setCells]
    go_simp
  unfold Go.Oper.wp
  simp [execOp, ho, hx, hy, hrun, Result.andThen]
  exact hK _ _ (h _ rfl)
end Go.Proofs.YtfakboehmcimpaaGreat

namespace Go.Proofs.YtfakboehmcimpaaGreat
open Go.ChangeShapes Go.WideShapes Go.ChangeAt Go.RowKit
set_option linter.unusedVariables false
set_option maxRecDepth 4000
set_option linter.unusedSimpArgs false
/-! The document's answers for slots. -/
def syncF (n : Nat) (F : List UInt8) (D : List Drt) : List UInt8 := if rightB n D then app F D else F
def syncD (n : Nat) (D : List Drt) : List Drt := if rightB n D then [] else D
set_option maxRecDepth 20000 in
set_option maxHeartbeats 1000000 in
theorem rinsert_c {v : Value} {n : Nat} {F : List UInt8} {D : List Drt} {p r l : Bool} (w : World) (h : Slt w v n F D p r l) :
    Calls Tryz.prog 83 #[v] w fun e w' => ∃ v', e = .returned (.tuple #[v', .bool (!p)]) ∧ Later w w' ∧ Slt w' v' n F D true r l ∧ NewT w v v' := by
  obtain ⟨ab, cb, aD, k, cD, rfl, hm⟩ := h
  have HM := hide hm
  clear hm
  cases p with
  | true =>
    go_enter Tryz.func83, Tryz.ntmps83
    go_wp2
    refine bodyPost_ret (results_cell_tmp rfl _ _ _ (w.heap.size + 1) 0 rfl (.agg #[.slice ab n cb, .slice aD k cD, .bool true, .bool r, .bool l]) (.bool false) (shut5 (cs := tc (.slice ab n cb) (.slice aD k cD) true r l) (Box.new' _ _ _ _ rfl _ (by simp)) rfl) rfl) rfl ⟨_, rfl, ((Later.refl w).alloc _).alloc _, Slt.mk' _ _ _ (HM.out.later (((Later.refl w).alloc _).alloc _)), fun g hg ⟨a, b, p, r, l, e, h1, h2⟩ => ?_⟩
    simp at e
    obtain ⟨rfl, rfl, _⟩ := e
    exact ⟨_, _, _, _, _, rfl, h1, h2⟩
  | false =>
    go_enter Tryz.func83, Tryz.ntmps83
    go_wp2
    refine bodyPost_ret (results_cell_tmp rfl _ _ _ (w.heap.size + 1) 0 rfl (.agg #[.slice ab n cb, .slice aD k cD, .bool true, .bool r, .bool l]) (.bool true) (shut5 (cs := tc (.slice ab n cb) (.slice aD k cD) true r l) (Box.new' _ _ _ _ rfl _ (by simp)) rfl) rfl) rfl ⟨_, rfl, ((Later.refl w).alloc _).alloc _, Slt.mk' _ _ _ (HM.out.later (((Later.refl w).alloc _).alloc _)), fun g hg ⟨a, b, p, r, l, e, h1, h2⟩ => ?_⟩
    simp at e
    obtain ⟨rfl, rfl, _⟩ := e
    exact ⟨_, _, _, _, _, rfl, h1, h2⟩
set_option maxRecDepth 20000 in
set_option maxHeartbeats 1000000 in
theorem rsync_c {v : Value} {n : Nat} {F : List UInt8} {D : List Drt} {p r l : Bool} (w : World) (h : Slt w v n F D p r l) :
    Calls Tryz.prog 86 #[v] w fun e w' => ∃ v', e = .returned v' ∧ Later w w' ∧ Slt w' v' n (syncF n F D) (syncD n D) p r l ∧ NewT w v v' := by
  obtain ⟨ab, cb, aD, k, cD, rfl, hm⟩ := h
  have HM := hide hm
  have BX : Hid (Box (w.alloc (.cells #[.slice ab n cb, .slice aD k cD, .bool p, .bool r, .bool l] 27)) w.heap.size 27 (tc (.slice ab n cb) (.slice aD k cD) p r l)) := Box.new w 27 #[.slice ab n cb, .slice aD k cD, .bool p, .bool r, .bool l]
  have L := hide ((Later.refl w).alloc (.cells #[.slice ab n cb, .slice aD k cD, .bool p, .bool r, .bool l] 27))
  clear hm
  have BR : Hid (Box ((w.alloc (.cells #[.slice ab n cb, .slice aD k cD, .bool p, .bool r, .bool l] 27)).alloc (.cells #[.slice none 0 0, .slice none 0 0, .bool false, .bool false, .bool false] 27)) (w.heap.size + 1) 27 (tc (.slice none 0 0) (.slice none 0 0) false false false)) := Box.new' _ _ _ _ rfl _ (by simp)
  replace BX := hide (BX.out.alloc (.cells #[.slice none 0 0, .slice none 0 0, .bool false, .bool false, .bool false] 27))
  replace L := hide (L.out.alloc (.cells #[.slice none 0 0, .slice none 0 0, .bool false, .bool false, .bool false] 27))
  have M1 := hide (HM.out.later L.out)
  go_enter Tryz.func86, Tryz.ntmps86
  go_wp2_with fail
  generalize ((w.alloc (.cells #[.slice ab n cb, .slice aD k cD, .bool p, .bool r, .bool l] 27)).alloc (.cells #[.slice none 0 0, .slice none 0 0, .bool false, .bool false, .bool false] 27)) = w1 at *
  refine (rright_c w1 M1.out).mono ?_
  rintro e w2 ⟨rfl, hl⟩
  replace BX := hide (BX.out.later hl)
  replace BR := hide (BR.out.later hl)
  replace L := hide (L.out.later hl)
  replace M1 := hide (M1.out.later hl)
  clear hl
  have d0 := BX.out.cell 0
  have d1 := BX.out.cell 1
  have d2 := BX.out.cell 2
  have d3 := BX.out.cell 3
  have d4 := BX.out.cell 4
  cases hR : rightB n D with
  | true =>
    have hF : Hid (syncF n F D = app F D ∧ syncD n D = []) := by simp [Hid, syncF, syncD, hR]
    go_wp2_with fail
    refine (rall_c w2 M1.out).mono ?_
    rintro e w3 ⟨vb, rfl, hl, hb⟩
    simp only [allN, allF, hR, if_true] at hb
    have O3 : Hid (w3.ownsRow w.heap.size 80 64 vb n (bv (app F D))) := owns_rebase hb L.out.size
    replace BX := hide (BX.out.later hl)
    replace BR := hide (BR.out.later hl)
    replace L := hide (L.out.later hl)
    clear hl hb d0 d1 d2 d3 d4 M1
    obtain ⟨a3, c3, rfl⟩ := (Rw.of_owns O3.out).shape
    have M3 : Hid (Med w3 (.agg #[.slice a3 n c3, .slice none 0 0]) n (app F D) []) := ⟨_, _, rfl, Rw.of_owns O3.out, Rw.nil 65 _, fun d hd => by cases hd⟩
    have HX := hide (BX.out.setCells [.slice a3 n c3, .slice none 0 0] 0 (by simp))
    have M4 := hide (M3.out.setBox BX.out (tc_noints _ _ _ _ _ _ _ _ _) [.slice a3 n c3, .slice none 0 0] 0)
    have BR4 : Hid (Box (w3.setCells w.heap.size 0 [.slice a3 n c3, .slice none 0 0]) (w.heap.size + 1) 27 (tc (.slice none 0 0) (.slice none 0 0) false false false)) := BR.out.kept (heap_setCells_other w3 w.heap.size (w.heap.size + 1) (by omega) _ _)
    have L4 := hide (L.out.setCells (g := w.heap.size) (Nat.le_refl _) [.slice a3 n c3, .slice none 0 0] 0)
    have ht0 : Hid (w3.there w.heap.size 0 2) := BX.out.there 0 2 (by simp)
    have d0 := HX.out.cell 0
    have d1 := HX.out.cell 1
    have d2 := HX.out.cell 2
    have d3 := HX.out.cell 3
    have d4 := HX.out.cell 4
    have ht : Hid ((w3.setCells w.heap.size 0 [.slice a3 n c3, .slice none 0 0]).there (w.heap.size + 1) 0 5) := BR4.out.there 0 5 (by simp)
    have HE := hide (slot_set (p := p) (r := r) (l := l) (by omega) BR4.out (tc_noints _ _ _ _ _ _ _ _ _) rfl L4.out M4.out)
    clear HX M4 M3 L4 BX BR
    go_wp2_with (first
      | refine wpList_store_mid rfl 25 (.tmp 10) (.tmp 9) rfl w.heap.size 0 [.slice a3 n c3, .slice none 0 0].toArray rfl rfl ht0.out (zero_of_info Tryz.zero_medium).2 (by simp [Value.oneCell']) ?_
      | refine wpList_store_mid rfl 27 (.tmp 2) (.tmp 11) rfl (w.heap.size + 1) 0 (tc (.slice a3 n c3) (.slice none 0 0) p r l).toArray rfl rfl ht.out Tryz.info_slot (all_oneCell_toArray (tc_one _ _ _ _ _ _ _ _ _)) ?_)
    refine bodyPost_ret (results_cell1 rfl _ _ _ (w.heap.size + 1) 0 rfl (.agg #[.slice a3 n c3, .slice none 0 0, .bool p, .bool r, .bool l]) (shut5 HE.out.1 rfl)) rfl ⟨_, rfl, HE.out.2.1, ?_, fun g hg h => ⟨_, _, _, _, _, rfl, owns_off O3.out hg, trivial⟩⟩
    rw [hF.out.1, hF.out.2]
    exact Slt.mk' _ _ _ HE.out.2.2
  | false =>
    have hF : Hid (syncF n F D = F ∧ syncD n D = D) := by simp [Hid, syncF, syncD, hR]
    have ht : Hid (w2.there (w.heap.size + 1) 0 5) := BR.out.there 0 5 (by simp)
    have HE := hide (slot_set (p := p) (r := r) (l := l) (by omega) BR.out (tc_noints _ _ _ _ _ _ _ _ _) rfl L.out M1.out)
    go_wp2_with (refine wpList_store_mid rfl 27 (.tmp 2) (.tmp 11) rfl (w.heap.size + 1) 0 (tc (.slice ab n cb) (.slice aD k cD) p r l).toArray rfl rfl ht.out Tryz.info_slot (all_oneCell_toArray (tc_one _ _ _ _ _ _ _ _ _)) ?_)
    refine bodyPost_ret (results_cell1 rfl _ _ _ (w.heap.size + 1) 0 rfl (.agg #[.slice ab n cb, .slice aD k cD, .bool p, .bool r, .bool l]) (shut5 HE.out.1 rfl)) rfl ⟨_, rfl, HE.out.2.1, ?_, fun g hg h => h⟩
    rw [hF.out.1, hF.out.2]
    exact Slt.mk' _ _ _ HE.out.2.2
end Go.Proofs.YtfakboehmcimpaaGreat

namespace Go.Proofs.YtfakboehmcimpaaGreat
open Go.ChangeShapes Go.WideShapes Go.ChangeAt Go.RowKit
set_option linter.unusedVariables false
set_option maxRecDepth 4000
set_option linter.unusedSimpArgs false
/-! The document's answers for slots: Ready, Switch, Power, Button. -/
def notReady : Sns := (2, 58, 0)
def readyS (p : Bool) : Sns := if p then (0, 0, 0) else notReady
set_option maxHeartbeats 1000000 in
theorem rready_c {v : Value} {n : Nat} {F : List UInt8} {D : List Drt} {p r l : Bool} (w : World) (h : Slt w v n F D p r l) :
    Calls Tryz.prog 30 #[v] w fun e w' => e = .returned (sval (readyS p)) ∧ Later w w' := by
  obtain ⟨ab, cb, aD, k, cD, rfl, hm⟩ := h
  clear hm
  cases p with
  | true =>
    go_enter Tryz.func30, Tryz.ntmps30
    go_wp2
    exact bodyPost_ret (results_cell1 rfl _ _ _ (w.heap.size + 1) 0 rfl (sval (0, 0, 0)) (shut3 (s := (0, 0, 0)) (Box.new' _ _ _ _ rfl _ (by simp)))) rfl ⟨rfl, ((Later.refl w).alloc _).alloc _⟩
  | false =>
    go_enter Tryz.func30, Tryz.ntmps30
    go_wp2_with fail
    refine (rof_c 2 58 0 _).mono ?_
    rintro e w2 ⟨rfl, hl⟩
    have BR : Hid (Box w2 (w.heap.size + 1) 30 (sc (0, 0, 0))) := Box.later (Box.new' _ _ _ _ rfl _ (by simp)) hl
    have L : Hid (Later w w2) := Later.trans (((Later.refl w).alloc _).alloc _) hl
    have ht : Hid (w2.there (w.heap.size + 1) 0 3) := BR.out.there 0 3 (by simp)
    have BZ := hide (BR.out.all (sc (2, 58, 0)) rfl)
    have LZ := hide (L.out.setCells (g := w.heap.size + 1) (by omega) (sc (2, 58, 0)) 0)
    clear hl
    go_wp2_with (refine wpList_store_mid rfl 30 (.tmp 2) (.tmp 6) rfl (w.heap.size + 1) 0 (sc (2, 58, 0)).toArray rfl rfl ht.out Tryz.info_sense (all_oneCell_toArray (by simp [Value.oneCell'])) ?_)
    exact bodyPost_ret (results_cell1 rfl _ _ _ (w.heap.size + 1) 0 rfl (sval (2, 58, 0)) (shut3 BZ.out)) rfl ⟨rfl, LZ.out⟩
end Go.Proofs.YtfakboehmcimpaaGreat
