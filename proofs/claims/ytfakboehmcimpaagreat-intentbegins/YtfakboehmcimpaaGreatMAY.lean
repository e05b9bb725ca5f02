import Derived.Test.YtfakboehmcimpaaGreatMAX
import Derived.Test.YtfakboehmcimpaaGreatMAC
import Derived.Test.YtfakboehmcimpaaGreatMAL
namespace Go.Proofs.YtfakboehmcimpaaGreat
open Go.ChangeShapes Go.WideShapes Go.ChangeAt Go.RowKit
set_option linter.unusedVariables false
set_option maxRecDepth 4000
set_option linter.unusedSimpArgs false
/-! The landed slot: with, Sync. -/
set_option maxRecDepth 20000 in
set_option maxHeartbeats 1000000 in
theorem swith_yes {v u : Value} {n m : Nat} {F G : List UInt8} {D E : List Drt} {p r l : Bool} (w : World) (h : Slt w v n F D p r l) (hu : Med w u m G E) :
    Calls Tryz.prog 111 #[v, u, .int .i64 0] w fun e w' => ∃ v', e = .returned v' ∧ Later w w' ∧ Slt w' v' m G E p r l ∧ ∀ g, OffM g u → OffT g v' := by
  obtain ⟨ab, cb, aD, k, cD, rfl, _⟩ := h
  have HU := hide hu
  obtain ⟨a3, c3, a6, k6, c6, rfl, _, _, _⟩ := hu.shape
  clear hu
  go_enter Tryz.func111, Tryz.ntmps111
  go_wp2
  refine bodyPost_ret (results_cell1 rfl _ _ _ (w.heap.size + 1 + 1) 0 rfl (.agg #[.slice a3 m c3, .slice a6 k6 c6, .bool p, .bool r, .bool l]) (shut5 (cs := tc (.slice a3 m c3) (.slice a6 k6 c6) p r l) (Box.new' _ _ _ _ rfl _ (by simp)) rfl)) rfl ⟨_, rfl, (((Later.refl w).alloc _).alloc _).alloc _, Slt.mk' _ _ _ (HU.out.later ((((Later.refl w).alloc _).alloc _).alloc _)), fun g ⟨a, b, e, h1, h2⟩ => ?_⟩
  simp at e
  obtain ⟨rfl, rfl⟩ := e
  exact ⟨_, _, _, _, _, rfl, h1, h2⟩
set_option maxRecDepth 20000 in
set_option maxHeartbeats 1000000 in
theorem swith_no {v u : Value} {n m : Nat} {F G : List UInt8} {D E : List Drt} {p r l : Bool} (ee : Int) (w : World) (h : Slt w v n F D p r l) (hu : Med w u m G E) (he : ee ≠ 0) (hn : n ≤ 100) (hD : D.length ≤ 100) :
    Calls Tryz.prog 111 #[v, u, .int .i64 ee] w fun e w' => ∃ v', e = .returned v' ∧ Later w w' ∧ Slt w' v' n F D p r l ∧ Fresh w.heap.size v' := by
  have HS := hide h
  obtain ⟨ab, cb, aD, k, cD, rfl, _⟩ := h
  obtain ⟨a3, c3, a6, k6, c6, rfl, _, _, _⟩ := hu.shape
  have hne : (ee != 0) = true := by simpa using he
  have HDl := hide hD
  clear hu hD
  go_enter Tryz.func111, Tryz.ntmps111
  go_wp2_with fail
  refine (sown_c _ (HS.out.later ((((Later.refl w).alloc _).alloc _).alloc _)) hn HDl.out).mono ?_
  rintro e w2 ⟨v2, rfl, hl, h2, hf⟩
  have BR : Hid (Box w2 (w.heap.size + 1 + 1) 27 (tc (.slice none 0 0) (.slice none 0 0) false false false)) := Box.later (Box.new' _ _ _ _ rfl _ (by simp)) hl
  have L : Hid (Later w w2) := Later.trans ((((Later.refl w).alloc _).alloc _).alloc _) hl
  have FR : Hid (Fresh w.heap.size v2) := hf.mono (by simp; omega)
  obtain ⟨b3, d3, b6, j6, d6, rfl, hm2⟩ := h2
  have M := hide hm2
  clear hl hf hm2
  have HE := hide (slot_set (p := p) (r := r) (l := l) (by omega) BR.out (tc_noints _ _ _ _ _ _ _ _ _) rfl L.out M.out)
  go_wp2_with (refine wpList_storeT rfl 27 (.tmp 6) (.tmp 10) rfl (w.heap.size + 1 + 1) 0 rfl (tc (.slice b3 n d3) (.slice b6 j6 d6) p r l) rfl Tryz.info_slot (tc_one _ _ _ _ _ _ _ _ _) _ _ BR.out (by simp) ?_)
  intro wz hwz
  rw [← hwz.out] at HE
  clear hwz BR L M
  go_wp2
  exact bodyPost_ret (results_cell1 rfl _ _ _ (w.heap.size + 1 + 1) 0 rfl (.agg #[.slice b3 n d3, .slice b6 j6 d6, .bool p, .bool r, .bool l]) (shut5 HE.out.1 rfl)) rfl ⟨_, rfl, HE.out.2.1, Slt.mk' _ _ _ HE.out.2.2, FR.out⟩
theorem flush_no {n : Nat} {D : List Drt} (h : rightB n D = false) (a m : Int) : flushE n D a m = 1 := by simp [flushE, h]
set_option maxRecDepth 20000 in
set_option maxHeartbeats 1000000 in
theorem ssync_x {v : Value} {n : Nat} {F : List UInt8} {D : List Drt} {p r l : Bool} (w : World) (h : Slt w v n F D p r l) (hn : n ≤ 100) (hD : D.length ≤ 100) :
    Calls Tryz.prog 72 #[v] w fun e w' => ∃ v', e = .returned v' ∧ Later w w' ∧ Slt w' v' n (syncF n F D) (syncD n D) p r l ∧ Fresh w.heap.size v' := by
  have HDl := hide hD
  clear hD
  have HS := hide h
  obtain ⟨ab, cb, aD, k, cD, rfl, hm⟩ := h
  have HM := hide hm
  clear hm
  have BX : Hid (Box ((w.alloc (.cells #[.slice ab n cb, .slice aD k cD, .bool p, .bool r, .bool l] 27)).alloc (.cells #[.slice none 0 0, .slice none 0 0, .bool false, .bool false, .bool false] 27)) w.heap.size 27 (tc (.slice ab n cb) (.slice aD k cD) p r l)) := (Box.new w 27 #[.slice ab n cb, .slice aD k cD, .bool p, .bool r, .bool l]).alloc _
  have BR : Hid (Box ((w.alloc (.cells #[.slice ab n cb, .slice aD k cD, .bool p, .bool r, .bool l] 27)).alloc (.cells #[.slice none 0 0, .slice none 0 0, .bool false, .bool false, .bool false] 27)) (w.heap.size + 1) 27 (tc (.slice none 0 0) (.slice none 0 0) false false false)) := Box.new' _ _ _ _ rfl _ (by simp)
  have L := hide (((Later.refl w).alloc (.cells #[.slice ab n cb, .slice aD k cD, .bool p, .bool r, .bool l] 27)).alloc (.cells #[.slice none 0 0, .slice none 0 0, .bool false, .bool false, .bool false] 27))
  go_enter Tryz.func72, Tryz.ntmps72
  go_wp2_with fail
  generalize ((w.alloc (.cells #[.slice ab n cb, .slice aD k cD, .bool p, .bool r, .bool l] 27)).alloc (.cells #[.slice none 0 0, .slice none 0 0, .bool false, .bool false, .bool false] 27)) = w1 at *
  refine (cflush3_x _ n F D 0 0 w1 (HM.out.later L.out) (by omega) (by omega) (by omega) (by omega)).mono ?_
  rintro e w2 ⟨v2, rfl, hl, h2, ho2⟩
  have hO2 : Hid (∀ g, g < w.heap.size → OffM g v2) := fun g hg => ho2 g (by have := L.out.size; omega)
  replace BX := hide (BX.out.later hl)
  replace BR := hide (BR.out.later hl)
  replace L := hide (L.out.later hl)
  have M := hide h2
  obtain ⟨a3, c3, a6, k6, c6, rfl, _, _, _⟩ := h2.shape
  clear hl h2 ho2
  cases hR : rightB n D with
  | true =>
    have hF : Hid (syncF n F D = app F D ∧ syncD n D = []) := by simp [Hid, syncF, syncD, hR]
    obtain ⟨hE, hN, hFF, hDD⟩ := flush0 (F := F) hR HM.out.flat.2
    rw [hE]
    rw [hN, hFF, hDD] at M
    generalize flushN n D 0 0 = nn at *
    have hN' := hN.symm
    subst hN'
    clear hE hN hFF hDD
    go_wp2_with (refine wpList_newM rfl rfl rfl 3 rfl (by simp) (.tmp 9) (by simp) rfl a3 a6 _ c3 k6 c6 rfl ?_)
    intro g3 w3 hB hl hg
    replace BX := hide (BX.out.later hl)
    replace BR := hide (BR.out.later hl)
    replace L := hide (L.out.later hl)
    replace M := hide (M.out.later hl)
    have B3 := hide hB
    clear hl hB hg
    have d0 := BX.out.cell 0
    have d1 := BX.out.cell 1
    have d2 := BX.out.cell 2
    have d3 := BX.out.cell 3
    have d4 := BX.out.cell 4
    have e0 := B3.out.cell 0
    have e1 := B3.out.cell 1
    go_wp2_with fail
    refine (swith_yes (n := n) (F := F) (D := D) w3 (HS.out.later L.out) M.out).mono ?_
    rintro e w4 ⟨v4, rfl, hl, h4, ho4⟩
    have FR : Hid (Fresh w.heap.size v4) := fun g hg => ho4 g (hO2.out g hg)
    clear M d0 d1 d2 d3 d4 e0 e1
    replace BR := hide (BR.out.later hl)
    replace L := hide (L.out.later hl)
    obtain ⟨b3, f3, b6, j6, f6, rfl, hm4⟩ := h4
    have M := hide hm4
    clear hl hm4 ho4 hO2 BX B3
    have HE := hide (slot_set (p := p) (r := r) (l := l) (by omega) BR.out (tc_noints _ _ _ _ _ _ _ _ _) rfl L.out M.out)
    go_wp2_with (refine wpList_storeT rfl 27 (.tmp 2) (.tmp 14) rfl (w.heap.size + 1) 0 rfl (tc (.slice b3 n f3) (.slice b6 j6 f6) p r l) rfl Tryz.info_slot (tc_one _ _ _ _ _ _ _ _ _) _ _ BR.out (by simp) ?_)
    intro wz hwz
    rw [← hwz.out] at HE
    clear hwz BR L M
    go_wp2
    refine bodyPost_ret (results_cell1 rfl _ _ _ (w.heap.size + 1) 0 rfl (.agg #[.slice b3 n f3, .slice b6 j6 f6, .bool p, .bool r, .bool l]) (shut5 HE.out.1 rfl)) rfl ⟨_, rfl, HE.out.2.1, ?_, FR.out⟩
    rw [hF.out.1, hF.out.2]
    exact Slt.mk' _ _ _ HE.out.2.2
  | false =>
    have hF : Hid (syncF n F D = F ∧ syncD n D = D) := by simp [Hid, syncF, syncD, hR]
    rw [flush_no hR]
    generalize flushN n D 0 0 = nn at *
    go_wp2_with (refine wpList_newM rfl rfl rfl 3 rfl (by simp) (.tmp 9) (by simp) rfl a3 a6 _ c3 k6 c6 rfl ?_)
    intro g3 w3 hB hl hg
    replace BX := hide (BX.out.later hl)
    replace BR := hide (BR.out.later hl)
    replace L := hide (L.out.later hl)
    replace M := hide (M.out.later hl)
    have B3 := hide hB
    clear hl hB hg
    have d0 := BX.out.cell 0
    have d1 := BX.out.cell 1
    have d2 := BX.out.cell 2
    have d3 := BX.out.cell 3
    have d4 := BX.out.cell 4
    have e0 := B3.out.cell 0
    have e1 := B3.out.cell 1
    go_wp2_with fail
    refine (swith_no (n := n) (F := F) (D := D) 1 w3 (HS.out.later L.out) M.out (by omega) hn HDl.out).mono ?_
    rintro e w4 ⟨v4, rfl, hl, h4, hf4⟩
    have FR : Hid (Fresh w.heap.size v4) := hf4.mono L.out.size
    clear M d0 d1 d2 d3 d4 e0 e1
    replace BR := hide (BR.out.later hl)
    replace L := hide (L.out.later hl)
    obtain ⟨b3, f3, b6, j6, f6, rfl, hm4⟩ := h4
    have M := hide hm4
    clear hl hm4 hf4 hO2 BX B3
    have HE := hide (slot_set (p := p) (r := r) (l := l) (by omega) BR.out (tc_noints _ _ _ _ _ _ _ _ _) rfl L.out M.out)
    go_wp2_with (refine wpList_storeT rfl 27 (.tmp 2) (.tmp 14) rfl (w.heap.size + 1) 0 rfl (tc (.slice b3 n f3) (.slice b6 j6 f6) p r l) rfl Tryz.info_slot (tc_one _ _ _ _ _ _ _ _ _) _ _ BR.out (by simp) ?_)
    intro wz hwz
    rw [← hwz.out] at HE
    clear hwz BR L M
    go_wp2
    refine bodyPost_ret (results_cell1 rfl _ _ _ (w.heap.size + 1) 0 rfl (.agg #[.slice b3 n f3, .slice b6 j6 f6, .bool p, .bool r, .bool l]) (shut5 HE.out.1 rfl)) rfl ⟨_, rfl, HE.out.2.1, ?_, FR.out⟩
    rw [hF.out.1, hF.out.2]
    exact Slt.mk' _ _ _ HE.out.2.2
theorem ssync_c : ISyncT := fun v n F D p r l w h hn hD => (ssync_x w h hn hD).mono fun e w' ⟨v', h1, h2, h3, _⟩ => ⟨v', h1, h2, h3⟩
end Go.Proofs.YtfakboehmcimpaaGreat

namespace Go.Proofs.YtfakboehmcimpaaGreat
open Go.ChangeShapes Go.WideShapes Go.ChangeAt Go.RowKit
set_option linter.unusedVariables false
set_option maxRecDepth 4000
set_option linter.unusedSimpArgs false
/-! The landed slot: Insert, Switch, Power. -/
theorem box_bool {w : World} {g : Nat} {a b : Value} {p r l : Bool} (h : Box w g 27 (tc a b p r l)) :
    (∀ x, Box (w.setCells g 2 [.bool x]) g 27 (tc a b x r l)) ∧ (∀ x, Box (w.setCells g 3 [.bool x]) g 27 (tc a b p x l)) ∧ (∀ x, Box (w.setCells g 4 [.bool x]) g 27 (tc a b p r x)) :=
  ⟨fun x => h.setCells [.bool x] 2 (by simp), fun x => h.setCells [.bool x] 3 (by simp), fun x => h.setCells [.bool x] 4 (by simp)⟩
theorem Tryz.info_bool : (Tryz.prog.info? 4).map (·.size) = some 1 := by kernel_rfl
set_option maxRecDepth 20000 in
set_option maxHeartbeats 1000000 in
theorem sinsert_c : IInsertT := by
  intro v n F D p r l w h hn hD
  have HDl := hide hD
  clear hD
  have HS := hide h
  obtain ⟨ab, cb, aD, k, cD, rfl, hm⟩ := h
  have HM := hide hm
  clear hm
  have BX : Hid (Box ((w.alloc (.cells #[.slice ab n cb, .slice aD k cD, .bool p, .bool r, .bool l] 27)).alloc (.cells #[.slice none 0 0, .slice none 0 0, .bool false, .bool false, .bool false] 27)) w.heap.size 27 (tc (.slice ab n cb) (.slice aD k cD) p r l)) := (Box.new w 27 #[.slice ab n cb, .slice aD k cD, .bool p, .bool r, .bool l]).alloc _
  have BR : Hid (Box ((w.alloc (.cells #[.slice ab n cb, .slice aD k cD, .bool p, .bool r, .bool l] 27)).alloc (.cells #[.slice none 0 0, .slice none 0 0, .bool false, .bool false, .bool false] 27)) (w.heap.size + 1) 27 (tc (.slice none 0 0) (.slice none 0 0) false false false)) := Box.new' _ _ _ _ rfl _ (by simp)
  have L := hide (((Later.refl w).alloc (.cells #[.slice ab n cb, .slice aD k cD, .bool p, .bool r, .bool l] 27)).alloc (.cells #[.slice none 0 0, .slice none 0 0, .bool false, .bool false, .bool false] 27))
  go_enter Tryz.func106, Tryz.ntmps106
  go_wp2_with fail
  generalize ((w.alloc (.cells #[.slice ab n cb, .slice aD k cD, .bool p, .bool r, .bool l] 27)).alloc (.cells #[.slice none 0 0, .slice none 0 0, .bool false, .bool false, .bool false] 27)) = w1 at *
  refine (sown_c w1 (HS.out.later L.out) hn HDl.out).mono ?_
  rintro e w2 ⟨v2, rfl, hl, h2, hf⟩
  replace BX := hide (BX.out.later hl)
  replace BR := hide (BR.out.later hl)
  replace L := hide (L.out.later hl)
  obtain ⟨a3, c3, a6, k6, c6, rfl, hm2⟩ := h2
  have M := hide hm2
  clear hl hm2 hf
  go_wp2_with (refine wpList_newT rfl rfl rfl 4 rfl (by simp) (.tmp 6) (by simp) rfl a3 a6 n c3 k6 c6 p r l rfl ?_)
  intro g4 w3 hB hl hg
  have hne : Hid (w.heap.size ≠ g4 ∧ w.heap.size + 1 ≠ g4 ∧ w.heap.size ≤ g4) := by
    have h1 := BX.out.lt
    have h2 := BR.out.lt
    have h3 := hg.out.1
    exact ⟨by omega, by omega, by omega⟩
  replace BX := hide (BX.out.later hl)
  replace BR := hide (BR.out.later hl)
  replace L := hide (L.out.later hl)
  replace M := hide (M.out.later hl)
  have B4 := hide hB
  clear hl hB hg
  go_wp2_with (refine wpList_storeC rfl 4 (.tmp 7) (.const (.bool true)) rfl g4 2 rfl true rfl Tryz.info_bool _ _ B4.out (by simp) ?_)
  intro w4 hw4
  have B5 := hide ((box_bool B4.out).1 true)
  have BX5 := hide (BX.out.kept (heap_setCells_other w3 g4 w.heap.size hne.out.1 [.bool true] 2))
  have BR5 := hide (BR.out.kept (heap_setCells_other w3 g4 (w.heap.size + 1) hne.out.2.1 [.bool true] 2))
  have L5 := hide (L.out.setCells (g := g4) hne.out.2.2 [.bool true] 2)
  have M5 := hide (M.out.setBox B4.out (tc_noints _ _ _ _ _ _ _ _ _) [.bool true] 2)
  rw [← hw4.out] at B5 BX5 BR5 L5 M5
  clear B4 BX BR L M hw4
  have hDr := hide (Later.refl w4).drew
  go_wp2_with fail
  refine wp_region_bag [0] [1, 2, 3, 4, 5] [4] (by kernel_rfl) (by kernel_rfl) (by kernel_rfl) (by kernel_rfl) ?_
  have hc := fun r => (hDr.out.trans (later_rg _ r))
  have q0 := fun r => (B5.out.later (hc r)).cell 0
  have q1 := fun r => (B5.out.later (hc r)).cell 1
  have q2 := fun r => (B5.out.later (hc r)).cell 2
  have q3 := fun r => (B5.out.later (hc r)).cell 3
  have q4 := fun r => (B5.out.later (hc r)).cell 4
  refine wpM_mild rfl (fun K hK => ?_)
  go_simp
  refine hK _ ?_
  clear hK K q0 q1 q2 q3 q4 hc
  have hwd := hDr.out
  refine wpM_nil (bag_of (fun i => match i with | 2 => [1] | 3 => [1, 2] | 5 => [1, 2, 3, 4] | _ => [])
    (fun W => Later w W ∧ Box W w.heap.size 27 (tc (.slice ab n cb) (.slice aD k cD) p r l) ∧ Med W (.agg #[.slice a3 n c3, .slice a6 k6 c6]) n F D ∧ (∃ cr, NoInts cr ∧ cr.length = 5 ∧ Box W (w.heap.size + 1) 27 cr))
    (fun i vals W => match i with
      | 1 => vals 1 = .pointer (some ⟨w.heap.size, 2, none⟩)
      | 2 => vals 2 = .bool p
      | 3 => vals 3 = .bool (!p)
      | 4 => Box W (w.heap.size + 1) 27 (tc (.slice a3 n c3) (.slice a6 k6 c6) true r l)
      | 5 => vals 5 = .bool (!p)
      | _ => True) (by kernel_rfl) (by kernel_rfl) ?c1 ?c2 ?c3 ?c4 ?c5 ?c6 ?c7 ?c8)
  case c1 => exact ⟨L5.out.trans hwd, BX5.out.later hwd, M5.out.later hwd, _, tc_noints _ _ _ _ _ _ _ _ _, rfl, BR5.out.later hwd⟩
  case c2 =>
    rintro W W' hl ⟨ii1, ii2, ii3, cr, jj1, jj2, jj3⟩
    exact ⟨ii1.trans hl, ii2.later hl, ii3.later hl, cr, jj1, jj2, jj3.later hl⟩
  case c3 =>
    intro i hi vals W W' hl h
    simp only [List.mem_cons, List.not_mem_nil, or_false] at hi
    rcases hi with rfl | rfl | rfl | rfl | rfl
    · exact h
    · exact h
    · exact h
    · exact Box.later h hl
    · exact h
  case c4 =>
    intro i hi k hk hne hds vals v W h
    simp only [List.mem_cons, List.not_mem_nil, or_false] at hi hk
    rcases hi with rfl | rfl | rfl | rfl | rfl <;> rcases hk with rfl | rfl | rfl | rfl | rfl <;> first | (exact absurd rfl hne) | (simp at hds; done) | (simpa [upd] using h)
  case c5 =>
    rintro i hi hni vals W ⟨ii1, ii2, ii3, ii4⟩ hlb hdep
    simp only [List.mem_cons, List.not_mem_nil, or_false] at hi
    rcases hi with rfl | rfl | rfl | rfl | rfl
    · refine lVal_step rfl (fun K hK => ?_)
      simp only [putAll, List.foldl]
      go_simp
      exact ⟨Later.refl _, hK _ _ (by simp [upd])⟩
    · have h1 : vals 1 = .pointer (some ⟨w.heap.size, 2, none⟩) := hdep 1 (by simp)
      have y2 := ii2.cell 2
      refine lVal_step rfl (fun K hK => ?_)
      simp only [putAll, List.foldl, dstOf, h1]
      go_simp
      exact ⟨Later.refl _, hK _ _ (by simp [upd])⟩
    · have h1 : vals 1 = .pointer (some ⟨w.heap.size, 2, none⟩) := hdep 1 (by simp)
      have h2 : vals 2 = .bool p := hdep 2 (by simp)
      refine lVal_step rfl (fun K hK => ?_)
      simp only [putAll, List.foldl, dstOf, h1, h2]
      go_simp
      exact ⟨Later.refl _, hK _ _ (by simp [upd])⟩
    · exact absurd (by simp) hni
    · have h1 : vals 1 = .pointer (some ⟨w.heap.size, 2, none⟩) := hdep 1 (by simp)
      have h2 : vals 2 = .bool p := hdep 2 (by simp)
      have h3 : vals 3 = .bool (!p) := hdep 3 (by simp)
      refine lVal_step rfl (fun K hK => ?_)
      simp only [putAll, List.foldl, dstOf, h1, h2, h3]
      go_simp
      exact ⟨Later.refl _, hK _ _ (by simp [upd])⟩
  case c6 =>
    rintro i hi hni vals W ⟨ii1, ii2, ii3, cr, jj1, jj2, jj3⟩ hlb hdep
    simp only [List.mem_cons, List.not_mem_nil, or_false] at hni
    subst hni
    refine sVal_store rfl rfl 27 (.tmp 2) (.tmp 8) rfl (w.heap.size + 1) (tc (.slice a3 n c3) (.slice a6 k6 c6) true r l) rfl rfl (jj3.there 0 5 (by omega)) Tryz.info_slot (tc_one _ _ _ _ _ _ _ _ _) (fun u => ⟨⟨ii1.setCells (by omega) _ 0, ii2.kept (heap_setCells_other W _ _ (by omega) _ _), ii3.setBox jj3 jj1 _ 0, _, tc_noints _ _ _ _ _ _ _ _ _, rfl, jj3.all _ (by simp [jj2])⟩, ?_, fun k hk => by cases hk⟩)
    exact jj3.all _ (by simp [jj2])
  case c7 =>
    intro i hi hst k hk hne hds hds' vals W W' h
    simp only [List.mem_cons, List.not_mem_nil, or_false] at hst hk
    subst hst
    rcases hk with rfl | rfl | rfl | rfl | rfl <;> first | (exact absurd rfl hne) | (exact h) | (simp at hds; done) | (simp at hds'; done)
  case c8 =>
    rintro vals wz ⟨ii1, ii2, ii3, ii4⟩ hall
    have h1 : vals 1 = .pointer (some ⟨w.heap.size, 2, none⟩) := hall 1 (by simp)
    have h2 : vals 2 = .bool p := hall 2 (by simp)
    have h3 : vals 3 = .bool (!p) := hall 3 (by simp)
    have T4 : Hid (Box wz (w.heap.size + 1) 27 (tc (.slice a3 n c3) (.slice a6 k6 c6) true r l)) := hall 4 (by simp)
    have h5 : vals 5 = .bool (!p) := hall 5 (by simp)
    have TL := hide ii1
    have TM := hide ii3
    clear ii1 ii2 ii3 ii4 hall B5 BX5 BR5 L5 M5 hDr hwd
    simp only [putAll, List.foldl, dstOf, h1, h2, h3, h5]
    go_wp2
    exact bodyPost_ret (results_cell_tmp rfl _ _ _ (w.heap.size + 1) 0 rfl (.agg #[.slice a3 n c3, .slice a6 k6 c6, .bool true, .bool r, .bool l]) (.bool (!p)) (shut5 T4.out rfl) rfl) rfl ⟨_, rfl, TL.out, Slt.mk' _ _ _ TM.out⟩
end Go.Proofs.YtfakboehmcimpaaGreat

namespace Go.Proofs.YtfakboehmcimpaaGreat
open Go.ChangeShapes Go.WideShapes Go.ChangeAt Go.RowKit
set_option linter.unusedVariables false
set_option maxRecDepth 4000
set_option linter.unusedSimpArgs false
/-! The landed slot: Switch, Power. -/
end Go.Proofs.YtfakboehmcimpaaGreat

namespace Go.Proofs.YtfakboehmcimpaaGreat
open Go.ChangeShapes Go.WideShapes Go.ChangeAt Go.RowKit
set_option linter.unusedVariables false
set_option maxRecDepth 4000
set_option linter.unusedSimpArgs false
theorem bwithin_w (c : Int) (at_ : Nat) (n : Int) (w : World) (hc1 : -9223372036854775808 ≤ c) (hc : c ≤ 9223372036854775807) (ha : at_ ≤ 18446744073709551615) (hn1 : -9223372036854775808 ≤ n) (hn : n ≤ 9223372036854775807) :
    Calls Tryz.prog 93 #[.int .i64 c, .int .u64 at_, .int .i64 n] w fun e w' => e = .returned (.bool (withinB c at_ n)) ∧ w' = w := by
  unfold withinB
  by_cases h1 : 0 ≤ n
  · have hd : decide (0 ≤ n) = true := by simpa using h1
    by_cases h2 : n ≤ c
    · have hd2 : decide (n ≤ c) = true := by simpa using h2
      go_enter Tryz.func93, Tryz.ntmps93
      go_wp2
      go_ret
      refine ⟨ret_bool ?_, rfl⟩
      simp [hd, hd2]
    · have hd2 : decide (n ≤ c) = false := by simpa using h2
      go_enter Tryz.func93, Tryz.ntmps93
      go_wp2
      go_ret
      refine ⟨ret_bool (by first | (simp; done) | (simp; omega)), rfl⟩
  · have hd : decide (0 ≤ n) = false := by simpa using h1
    go_enter Tryz.func93, Tryz.ntmps93
    go_wp2
    go_ret
    refine ⟨ret_bool (by first | (simp; done) | (simp; omega)), rfl⟩
theorem bwithin_c (c : Int) (at_ : Nat) (n : Int) (w : World) (hc1 : -9223372036854775808 ≤ c) (hc : c ≤ 9223372036854775807) (ha : at_ ≤ 18446744073709551615) (hn1 : -9223372036854775808 ≤ n) (hn : n ≤ 9223372036854775807) :
    Calls Tryz.prog 93 #[.int .i64 c, .int .u64 at_, .int .i64 n] w fun e w' => e = .returned (.bool (withinB c at_ n)) ∧ Later w w' :=
  (bwithin_w c at_ n w hc1 hc ha hn1 hn).mono fun e w' ⟨he, hw⟩ => ⟨he, by rw [hw]; exact Later.refl w⟩
end Go.Proofs.YtfakboehmcimpaaGreat

namespace Go.Proofs.YtfakboehmcimpaaGreat
open Go.ChangeShapes Go.WideShapes Go.ChangeAt Go.RowKit
set_option linter.unusedVariables false
set_option maxRecDepth 4000
set_option linter.unusedSimpArgs false
theorem bread_long (ad : Option Addr) (len ca : Nat) (a : Nat) (n : Int) (w : World) (hlen : 64 < len) (hm : len ≤ maxLen) :
    Calls Tryz.prog 96 #[.slice ad len ca, .int .u64 a, .int .i64 n] w fun e w' => e = .returned (.tuple #[.slice none 0 0, .int .i64 4]) ∧ w' = w := by
  unfold maxLen at hm
  go_enter Tryz.func96, Tryz.ntmps96
  go_wp2
  go_ret2
  exact ⟨rfl, rfl⟩
theorem bread_range (ad : Option Addr) (len ca : Nat) (a : Nat) (n : Int) (w : World) (hlen : len ≤ 64) (ha : a ≤ 18446744073709551615) (hn1 : -9223372036854775808 ≤ n) (hn2 : n ≤ 9223372036854775807) (hw : withinB len a n = false) :
    Calls Tryz.prog 96 #[.slice ad len ca, .int .u64 a, .int .i64 n] w fun e w' => e = .returned (.tuple #[.slice none 0 0, .int .i64 5]) ∧ w' = w := by
  go_enter Tryz.func96, Tryz.ntmps96
  go_wp2_with (go_at_call 93; refine (bwithin_w _ _ _ _ (by omega) (by omega) (by omega) (by omega) (by omega)).mono ?_; rintro e w1 ⟨rfl, hw1⟩; have hw2 := hw1.symm; subst hw2; clear hw1)
  go_ret2
  exact ⟨rfl, rfl⟩
theorem bv_arr_get (X : List UInt8) (j : Nat) (h : j < X.length) : (bv X).toArray[j]? = some (.int .u8 (X[j].toNat : Int)) := by simp [bv, h]
set_option maxHeartbeats 2000000 in
theorem bread_yes (ad : Option Addr) (len ca : Nat) (F : List UInt8) (a n : Nat) (w : World) (hlen : len ≤ 64) (hF : F.length = len * 64) (ha : a + n ≤ len) (hr : n = 0 ∨ ∃ ba oa, ad = some ⟨ba, oa, none⟩ ∧ w.rangeAt ba oa (bv F)) :
    Calls Tryz.prog 96 #[.slice ad len ca, .int .u64 a, .int .i64 n] w fun e w' => ∃ v, e = .returned (.tuple #[v, .int .i64 0]) ∧ Later w w' ∧ w'.ownsRow w.heap.size 5 1 v (n * 64) (bv (seg F (a * 64) (n * 64))) := by
  have hw : withinB len a n = true := by simp [withinB]; omega
  have Hr := hide hr
  clear hr
  go_enter Tryz.func96, Tryz.ntmps96
  go_wp2_with (first
    | (go_at_call 93; refine (bwithin_w _ _ _ _ (by omega) (by omega) (by omega) (by omega) (by omega)).mono ?_; rintro e w1 ⟨rfl, hw1⟩; have hw2 := hw1.symm; subst hw2; clear hw1)
    | (at_make; refine wpList_make_room Tryz.elem_u8 rfl _ _ 40 rfl Tryz.underlying40 _ (n * 64) rfl rfl ?c0 ?c1 ?c2 ?_))
  case c0 => omega
  case c1 => omega
  case c2 => unfold maxLen; omega
  rintro w1 ho1 hl1
  have Ho1 := hide ho1
  have L1 := hide hl1
  clear ho1 hl1
  go_wp2_with fail
  go_loopw [8, 25] (fun v i wr => ∃ k : Nat, k ≤ n ∧ i = .int .i64 k ∧ Hid (wr.ownsRow w.heap.size 5 1 v (k * 64) (bv (seg F (a * 64) (k * 64)))) ∧ Hid (Later w wr)) (fun _ i _ => n - (intOf i).toNat)
  case atStart => exact ⟨0, Nat.zero_le _, rfl, by simpa [Hid, seg_zero, bv] using Ho1.out, L1⟩
  case round =>
    clear Ho1 L1
    obtain ⟨k, hk, rfl, hown, hbl⟩ := hrel
    by_cases hlt : k < n
    · obtain ⟨ba, oa, rfl, hr0⟩ := Hr.out.resolve_left (by omega)
      have hrg := hide (hbl.out.range hr0)
      have hx := hide (by have := range_part hrg.out ((a + k) * 64) 64; rwa [bv_part] at this)
      have hxl := hide (seg_length F ((a + k) * 64) 64 (by omega))
      clear hr0 hrg
      go_wp2_with (refine wpList_load_mid rfl 80 (.tmp 33) rfl ba (oa + (a + k) * 64) rfl (bv (seg F ((a + k) * 64) 64)) _ hx.out Tryz.underlying80 rfl (by rw [Tryz.info_block, bv_length, hxl.out]) ?_)
      have hown2 := hown
      have hbl2 := hbl
      clear hx
      go_loopw [8, 35] (fun v i wq => ∃ j : Nat, j ≤ 64 ∧ i = .int .i64 j ∧ Hid (wq.ownsRow w.heap.size 5 1 v (k * 64 + j) (bv (seg F (a * 64) (k * 64 + j)))) ∧ Hid (Later w wq)) (fun _ i _ => 64 - (intOf i).toNat)
      case atStart => exact ⟨0, Nat.zero_le _, rfl, hown2, hbl2⟩
      case round =>
        obtain ⟨j, hj, rfl, hownj, hlj⟩ := hrel
        clear hown2 hbl2 hown hbl
        by_cases hltj : j < 64
        · have hXl := hxl.out
          have hsn : Hid (seg F (a * 64) (k * 64 + (j + 1)) = seg F (a * 64) (k * 64 + j) ++ [(seg F ((a + k) * 64) 64)[j]]) := by
            unfold Hid
            rw [← Nat.add_assoc, seg_snoc F (a * 64) (k * 64 + j) (by omega)]
            congr 2
            simp [seg]
            congr 1
            omega
          have hsz := hlj.out.size
          have hbyte := run_index_arr (P := Tryz.prog) wr 80 5 64 Tryz.underlying80 Tryz.underlying5 (by kernel_rfl) (bv (seg F ((a + k) * 64) 64)).toArray .i64 j hltj _ (bv_arr_get (seg F ((a + k) * 64) 64) j (by omega))
          generalize (seg F ((a + k) * 64) 64)[j] = c at *
          have hor := hide (hownj.out.alloc (.cells #[.int .u8 (c.toNat : Int)] 5))
          have hBr := hide (hlj.out.alloc (.cells #[.int .u8 (c.toNat : Int)] 5))
          have hone := hide (Bs.one wr c 5)
          clear hownj hlj
          go_wp2_with (at_builtin; refine wpList_append_bs rfl (.tmp 38) (.tmp 40) rfl w.heap.size _ (k * 64 + j) _ rfl hor.out _ [c] rfl hone.out ?c1 ?c2 w hBr.out ?_)
          case c1 => simp; omega
          case c2 => simp; omega
          intro v' w' ho' hb' hg'
          have R : Hid (w'.ownsRow w.heap.size 5 1 v' (k * 64 + (j + 1)) (bv (seg F (a * 64) (k * 64 + (j + 1)))) ∧ Later w w') := by
            refine ⟨?_, hb'⟩
            rw [hsn.out]
            exact ho'
          clear ho' hb' hg' hbyte hor hone hBr
          go_wp2
          go_roundw
          case rel => exact ⟨j + 1, by omega, by go_num, R.out.1, R.out.2⟩
          case measure => simp [intOf]; omega
        · have hj64 : Hid (j = 64) := by unfold Hid; omega
          go_wp2
          go_roundw
          case rel =>
            refine ⟨k + 1, by omega, by go_num, ?_, hlj⟩
            have := hownj.out
            rw [hj64.out] at this
            unfold Hid
            rw [show (k + 1) * 64 = k * 64 + 64 from by omega]
            exact this
          case measure => simp [intOf]; omega
    · have hkn : Hid (k = n) := by unfold Hid; omega
      go_wp2
      go_ret2
      refine ⟨_, rfl, hbl.out, ?_⟩
      have := hown.out
      rwa [hkn.out] at this
theorem bread_o {v : Value} {len : Nat} {F : List UInt8} (a : Nat) (n : Int) (w : World) (h : Rw 64 w v len (bv F)) (ha : a ≤ 18446744073709551615) (hn1 : -9223372036854775808 ≤ n) (hn2 : n ≤ 9223372036854775807) :
    Calls Tryz.prog 96 #[v, .int .u64 a, .int .i64 n] w fun e w' => ∃ v', e = .returned (.tuple #[v', .int .i64 (readE len a n)]) ∧ Later w w' ∧ w'.ownsRow w.heap.size 5 1 v' (readL len F a n).length (bv (readL len F a n)) := by
  obtain ⟨hl, hm, ad, ca, rfl, _, hr⟩ := h
  rw [bv_length] at hl
  unfold readE readL
  by_cases h1 : 64 < len
  · simp only [if_pos h1]
    exact (bread_long ad len ca a n w h1 hm).mono fun e w' ⟨he, hw⟩ => ⟨_, he, by rw [hw]; exact Later.refl w, World.ownsRow_nil _ _ _ _⟩
  · simp only [if_neg h1]
    by_cases h2 : withinB len a n = true
    · simp only [h2, if_true]
      have h2' := h2
      simp [withinB] at h2'
      obtain ⟨k, rfl⟩ := Int.eq_ofNat_of_zero_le h2'.1
      rw [Int.toNat_natCast]
      refine (bread_yes ad len ca F a k w (by omega) hl (by omega) ?_).mono fun e w' he => ?_
      · rcases hr with rfl | hr
        · left; omega
        · exact .inr hr
      · rwa [seg_length F (a * 64) (k * 64) (by omega)]
    · have h2' : withinB len a n = false := by simpa using h2
      simp only [h2', Bool.false_eq_true, if_false]
      exact (bread_range ad len ca a n w (by omega) ha hn1 hn2 h2').mono fun e w' ⟨he, hw⟩ => ⟨_, he, by rw [hw]; exact Later.refl w, World.ownsRow_nil _ _ _ _⟩
end Go.Proofs.YtfakboehmcimpaaGreat

namespace Go.Proofs.YtfakboehmcimpaaGreat
open Go.ChangeShapes Go.WideShapes Go.ChangeAt Go.RowKit
set_option linter.unusedVariables false
set_option maxRecDepth 4000
set_option linter.unusedSimpArgs false
/-! The landed slot: Ready, count, Check. -/
set_option maxHeartbeats 1000000 in
theorem sready_c : IReadyT := by
  intro v n F D p r l w h
  obtain ⟨ab, cb, aD, k, cD, rfl, hm⟩ := h
  clear hm
  cases p with
  | true =>
    go_enter Tryz.func19, Tryz.ntmps19
    go_wp2
    exact bodyPost_ret (results_cell1 rfl _ _ _ (w.heap.size + 1) 0 rfl (sval (0, 0, 0)) (shut3 (s := (0, 0, 0)) (Box.new' _ _ _ _ rfl _ (by simp)))) rfl ⟨rfl, ((Later.refl w).alloc _).alloc _⟩
  | false =>
    go_enter Tryz.func19, Tryz.ntmps19
    go_wp2_with fail
    refine (con_NotReady _).mono ?_
    rintro e w2 ⟨rfl, hl⟩
    have BR : Hid (Box w2 (w.heap.size + 1) 30 (sc (0, 0, 0))) := Box.later (Box.new' _ _ _ _ rfl _ (by simp)) hl
    have L : Hid (Later w w2) := Later.trans (((Later.refl w).alloc _).alloc _) hl
    have ht : Hid (w2.there (w.heap.size + 1) 0 3) := BR.out.there 0 3 (by simp)
    have BZ := hide (BR.out.all (sc (2, 58, 0)) rfl)
    have LZ := hide (L.out.setCells (g := w.heap.size + 1) (by omega) (sc (2, 58, 0)) 0)
    clear hl
    go_wp2_with (refine wpList_store_mid rfl 30 (.tmp 2) (.tmp 6) rfl (w.heap.size + 1) 0 (sc (2, 58, 0)).toArray rfl rfl ht.out Tryz.info_sense (all_oneCell_toArray (by simp [Value.oneCell'])) ?_)
    exact bodyPost_ret (results_cell1 rfl _ _ _ (w.heap.size + 1) 0 rfl (sval (2, 58, 0)) (shut3 BZ.out)) rfl ⟨rfl, LZ.out⟩
set_option maxHeartbeats 1000000 in
theorem scount_c {v : Value} {n : Nat} {F : List UInt8} {D : List Drt} (w : World) (h : Med w v n F D) :
    Calls Tryz.prog 94 #[v] w fun e w' => e = .returned (.int .i64 (allN n D)) ∧ Later w w' := by
  have HM := hide h
  obtain ⟨a3, c3, a6, k6, c6, rfl, _, hn, _⟩ := h.shape
  clear h
  have L := hide ((Later.refl w).alloc (.cells #[.slice a3 n c3, .slice a6 k6 c6] 25))
  have BX := hide (Box.new w 25 #[.slice a3 n c3, .slice a6 k6 c6])
  go_enter Tryz.func94, Tryz.ntmps94
  go_wp2_with fail
  refine (cright_c _ (HM.out.later L.out)).mono ?_
  rintro e w2 ⟨rfl, hl⟩
  replace BX := hide (BX.out.later hl)
  replace L := hide (L.out.later hl)
  clear hl
  have d0 := BX.out.cell 0
  have d1 := BX.out.cell 1
  cases hR : rightB n D with
  | true =>
    have hA : Hid (allN n D = n) := by simp [Hid, allN, hR]
    go_wp2
    go_ret
    exact ⟨by rw [hA.out]; rfl, L.out⟩
  | false =>
    have hA : Hid (allN n D = 0) := by simp [Hid, allN, hR]
    go_wp2
    go_ret
    exact ⟨by rw [hA.out]; rfl, L.out⟩
theorem okS_of (s : Sns) (h : (-9223372036854775808 ≤ s.1 ∧ s.1 ≤ 9223372036854775807) ∧ (-9223372036854775808 ≤ s.2.1 ∧ s.2.1 ≤ 9223372036854775807) ∧ (-9223372036854775808 ≤ s.2.2 ∧ s.2.2 ≤ 9223372036854775807)) : OkS s := h
set_option maxRecDepth 20000 in
set_option maxHeartbeats 2000000 in
theorem scheck_c : ICheckT := by
  intro v n F D p r l at_ m wr w h ha hm1 hm2 hn hD
  have HDl := hide hD
  clear hD
  have hNb : Hid (allN n D ≤ 64) := allN_small n D
  have HS := hide h
  obtain ⟨ab, cb, aD, k, cD, rfl, hm⟩ := h
  have HM := hide hm
  clear hm
  have BX : Hid (Box ((w.alloc (.cells #[.slice ab n cb, .slice aD k cD, .bool p, .bool r, .bool l] 27)).alloc (.cells #[.int .i64 0, .int .i64 0, .int .i64 0] 30)) w.heap.size 27 (tc (.slice ab n cb) (.slice aD k cD) p r l)) := (Box.new w 27 #[.slice ab n cb, .slice aD k cD, .bool p, .bool r, .bool l]).alloc _
  have BQ : Hid (Box ((w.alloc (.cells #[.slice ab n cb, .slice aD k cD, .bool p, .bool r, .bool l] 27)).alloc (.cells #[.int .i64 0, .int .i64 0, .int .i64 0] 30)) (w.heap.size + 1) 30 (sc (0, 0, 0))) := Box.new' _ _ _ _ rfl _ (by simp)
  have L := hide (((Later.refl w).alloc (.cells #[.slice ab n cb, .slice aD k cD, .bool p, .bool r, .bool l] 27)).alloc (.cells #[.int .i64 0, .int .i64 0, .int .i64 0] 30))
  go_enter Tryz.func53, Tryz.ntmps53
  go_wp2_with fail
  generalize ((w.alloc (.cells #[.slice ab n cb, .slice aD k cD, .bool p, .bool r, .bool l] 27)).alloc (.cells #[.int .i64 0, .int .i64 0, .int .i64 0] 30)) = w1 at *
  refine (sready_c _ n F D p r l w1 (HS.out.later L.out)).mono ?_
  rintro e w2 ⟨rfl, hl⟩
  replace BX := hide (BX.out.later hl)
  replace BQ := hide (BQ.out.later hl)
  replace L := hide (L.out.later hl)
  clear hl
  cases p with
  | false =>
    go_wp2_with (refine wpList_newS rfl rfl rfl 9 rfl (by simp) (.tmp 11) (by simp) rfl (2, 58, 0) rfl ?_)
    intro g9 w3 hB hl hg
    replace BX := hide (BX.out.later hl)
    replace BQ := hide (BQ.out.later hl)
    replace L := hide (L.out.later hl)
    have B9 := hide hB
    clear hB hl hg
    have e0 := B9.out.cell 0
    have e1 := B9.out.cell 1
    have e2 := B9.out.cell 2
    go_wp2_with fail
    refine (sgood_c (2, 58, 0) w3 (okS_of _ (by decide))).mono ?_
    rintro e w4 ⟨rfl, hl⟩
    rw [show (((2, 58, 0) : Sns) == (0, 0, 0)) = false from rfl]
    clear e0 e1 e2
    replace BX := hide (BX.out.later hl)
    replace BQ := hide (BQ.out.later hl)
    replace L := hide (L.out.later hl)
    replace B9 := hide (B9.out.later hl)
    clear hl
    have e0 := B9.out.cell 0
    have e1 := B9.out.cell 1
    have e2 := B9.out.cell 2
    go_wp2_with (refine wpList_storeT rfl 30 (.tmp 8) (.tmp 15) rfl (w.heap.size + 1) 0 rfl (sc (2, 58, 0)) rfl Tryz.info_sense (sc_one _) _ _ BQ.out (by simp) ?_)
    intro wz hwz
    have BZ := hide (BQ.out.all (sc (2, 58, 0)) rfl)
    have LZ := hide (L.out.setCells (g := w.heap.size + 1) (by omega) (sc (2, 58, 0)) 0)
    rw [← hwz.out] at BZ LZ
    clear hwz BQ L
    go_wp2
    refine bodyPost_ret (results_cell1 rfl _ _ _ (w.heap.size + 1) 0 rfl (sval (2, 58, 0)) (shut3 BZ.out)) rfl ⟨?_, LZ.out⟩
    simp [checkS]
  | true =>
    go_wp2_with (refine wpList_newS rfl rfl rfl 9 rfl (by simp) (.tmp 11) (by simp) rfl (0, 0, 0) rfl ?_)
    intro g9 w3 hB hl hg
    replace BX := hide (BX.out.later hl)
    replace BQ := hide (BQ.out.later hl)
    replace L := hide (L.out.later hl)
    have B9 := hide hB
    clear hB hl hg
    have e0 := B9.out.cell 0
    have e1 := B9.out.cell 1
    have e2 := B9.out.cell 2
    go_wp2_with fail
    refine (sgood_c (0, 0, 0) w3 (okS_of _ (by decide))).mono ?_
    rintro e w4 ⟨rfl, hl⟩
    rw [show (((0, 0, 0) : Sns) == (0, 0, 0)) = true from rfl]
    clear e0 e1 e2
    replace BX := hide (BX.out.later hl)
    replace BQ := hide (BQ.out.later hl)
    replace L := hide (L.out.later hl)
    replace B9 := hide (B9.out.later hl)
    clear hl
    have e0 := B9.out.cell 0
    have e1 := B9.out.cell 1
    have e2 := B9.out.cell 2
    have d0 := BX.out.cell 0
    have d1 := BX.out.cell 1
    have d2 := BX.out.cell 2
    have d3 := BX.out.cell 3
    have d4 := BX.out.cell 4
    cases wr with
    | false =>
      have HSv : Hid (checkS n D true r at_ m false = if withinB (allN n D) at_ m then (0, 0, 0) else (5, 33, 0)) := by simp [Hid, checkS]
      go_wp2_with fail
      refine (scount_c _ (HM.out.later L.out)).mono ?_
      rintro e w5 ⟨rfl, hl⟩
      replace BQ := hide (BQ.out.later hl)
      replace L := hide (L.out.later hl)
      clear hl d0 d1 d2 d3 d4 e0 e1 e2 BX B9
      generalize allN n D = N at *
      have hNi : (N : Int) ≤ 9223372036854775807 := by have := hNb.out; omega
      go_wp2_with fail
      refine (bwithin_c (N : Int) at_ m w5 (by omega) hNi ha hm1 hm2).mono ?_
      rintro e w6 ⟨rfl, hl⟩
      replace BQ := hide (BQ.out.later hl)
      replace L := hide (L.out.later hl)
      clear hl
      cases hW : withinB (N : Int) at_ m with
      | true =>
        go_wp2_with (refine wpList_storeT rfl 30 (.tmp 8) (.tmp 30) rfl (w.heap.size + 1) 0 rfl (sc (0, 0, 0)) rfl Tryz.info_sense (sc_one _) _ _ BQ.out (by simp) ?_)
        intro wz hwz
        have BZ := hide (BQ.out.all (sc (0, 0, 0)) rfl)
        have LZ := hide (L.out.setCells (g := w.heap.size + 1) (by omega) (sc (0, 0, 0)) 0)
        rw [← hwz.out] at BZ LZ
        clear hwz BQ L
        go_wp2
        refine bodyPost_ret (results_cell1 rfl _ _ _ (w.heap.size + 1) 0 rfl (sval (0, 0, 0)) (shut3 BZ.out)) rfl ⟨?_, LZ.out⟩
        rw [HSv.out, hW]
        rfl
      | false =>
        go_wp2_with fail
        refine (con_Range _).mono ?_
        rintro e w7 ⟨rfl, hl⟩
        replace BQ := hide (BQ.out.later hl)
        replace L := hide (L.out.later hl)
        clear hl
        go_wp2_with (refine wpList_storeT rfl 30 (.tmp 8) (.tmp 29) rfl (w.heap.size + 1) 0 rfl (sc (5, 33, 0)) rfl Tryz.info_sense (sc_one _) _ _ BQ.out (by simp) ?_)
        intro wz hwz
        have BZ := hide (BQ.out.all (sc (5, 33, 0)) rfl)
        have LZ := hide (L.out.setCells (g := w.heap.size + 1) (by omega) (sc (5, 33, 0)) 0)
        rw [← hwz.out] at BZ LZ
        clear hwz BQ L
        go_wp2
        refine bodyPost_ret (results_cell1 rfl _ _ _ (w.heap.size + 1) 0 rfl (sval (5, 33, 0)) (shut3 BZ.out)) rfl ⟨?_, LZ.out⟩
        rw [HSv.out, hW]
        rfl
    | true =>
      cases r with
      | false =>
        have HSv : Hid (checkS n D true false at_ m true = if withinB (allN n D) at_ m then (0, 0, 0) else (5, 33, 0)) := by simp [Hid, checkS]
        go_wp2_with fail
        refine (scount_c _ (HM.out.later L.out)).mono ?_
        rintro e w5 ⟨rfl, hl⟩
        replace BQ := hide (BQ.out.later hl)
        replace L := hide (L.out.later hl)
        clear hl d0 d1 d2 d3 d4 e0 e1 e2 BX B9
        generalize allN n D = N at *
        have hNi : (N : Int) ≤ 9223372036854775807 := by have := hNb.out; omega
        go_wp2_with fail
        refine (bwithin_c (N : Int) at_ m w5 (by omega) hNi ha hm1 hm2).mono ?_
        rintro e w6 ⟨rfl, hl⟩
        replace BQ := hide (BQ.out.later hl)
        replace L := hide (L.out.later hl)
        clear hl
        cases hW : withinB (N : Int) at_ m with
        | true =>
          go_wp2_with (refine wpList_storeT rfl 30 (.tmp 8) (.tmp 30) rfl (w.heap.size + 1) 0 rfl (sc (0, 0, 0)) rfl Tryz.info_sense (sc_one _) _ _ BQ.out (by simp) ?_)
          intro wz hwz
          have BZ := hide (BQ.out.all (sc (0, 0, 0)) rfl)
          have LZ := hide (L.out.setCells (g := w.heap.size + 1) (by omega) (sc (0, 0, 0)) 0)
          rw [← hwz.out] at BZ LZ
          clear hwz BQ L
          go_wp2
          refine bodyPost_ret (results_cell1 rfl _ _ _ (w.heap.size + 1) 0 rfl (sval (0, 0, 0)) (shut3 BZ.out)) rfl ⟨?_, LZ.out⟩
          rw [HSv.out, hW]
          rfl
        | false =>
          go_wp2_with fail
          refine (con_Range _).mono ?_
          rintro e w7 ⟨rfl, hl⟩
          replace BQ := hide (BQ.out.later hl)
          replace L := hide (L.out.later hl)
          clear hl
          go_wp2_with (refine wpList_storeT rfl 30 (.tmp 8) (.tmp 29) rfl (w.heap.size + 1) 0 rfl (sc (5, 33, 0)) rfl Tryz.info_sense (sc_one _) _ _ BQ.out (by simp) ?_)
          intro wz hwz
          have BZ := hide (BQ.out.all (sc (5, 33, 0)) rfl)
          have LZ := hide (L.out.setCells (g := w.heap.size + 1) (by omega) (sc (5, 33, 0)) 0)
          rw [← hwz.out] at BZ LZ
          clear hwz BQ L
          go_wp2
          refine bodyPost_ret (results_cell1 rfl _ _ _ (w.heap.size + 1) 0 rfl (sval (5, 33, 0)) (shut3 BZ.out)) rfl ⟨?_, LZ.out⟩
          rw [HSv.out, hW]
          rfl
      | true =>
        go_wp2_with fail
        refine (con_Protected _).mono ?_
        rintro e w5 ⟨rfl, hl⟩
        replace BQ := hide (BQ.out.later hl)
        replace L := hide (L.out.later hl)
        clear hl d0 d1 d2 d3 d4 e0 e1 e2 BX B9
        go_wp2_with (refine wpList_storeT rfl 30 (.tmp 8) (.tmp 21) rfl (w.heap.size + 1) 0 rfl (sc (7, 39, 0)) rfl Tryz.info_sense (sc_one _) _ _ BQ.out (by simp) ?_)
        intro wz hwz
        have BZ := hide (BQ.out.all (sc (7, 39, 0)) rfl)
        have LZ := hide (L.out.setCells (g := w.heap.size + 1) (by omega) (sc (7, 39, 0)) 0)
        rw [← hwz.out] at BZ LZ
        clear hwz BQ L
        go_wp2
        refine bodyPost_ret (results_cell1 rfl _ _ _ (w.heap.size + 1) 0 rfl (sval (7, 39, 0)) (shut3 BZ.out)) rfl ⟨?_, LZ.out⟩
        simp [checkS]
end Go.Proofs.YtfakboehmcimpaaGreat
