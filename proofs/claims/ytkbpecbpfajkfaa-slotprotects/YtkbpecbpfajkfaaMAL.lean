import Derived.Test.YtkbpecbpfajkfaaMAK
namespace Go.Proofs.Ytkbpecbpfajkfaa
open Go.ChangeShapes Go.WideShapes Go.ChangeAt Go.RowKit
set_option linter.unusedVariables false
set_option linter.unusedSimpArgs false

/-! The document's answers for slots: Keep, Unload. -/
theorem two_set {w w8 : World} {gR gS : Nat} {a b : Option Addr} {n m c d n' : Nat} {F : List UInt8} {D : List Drt} {cr cz : List Value} (p r l : Bool) (s : Sns) (hR : w.heap.size ≤ gR) (hS : w.heap.size ≤ gS) (hne : gR ≠ gS) (BR : Box w8 gR 27 cr) (hn : NoInts cr) (hl5 : cr.length = 5) (BS : Box w8 gS 35 cz) (hl3 : cz.length = 3) (L : Later w w8) (M : Med w8 (.agg #[.slice a n c, .slice b m d]) n' F D)
    (hoff : OffS gS (.slice a n c) ∧ OffS gS (.slice b m d)) :
    Box ((w8.setCells gR 0 (tc (.slice a n c) (.slice b m d) p r l)).setCells gS 0 (sc s)) gR 27 (tc (.slice a n c) (.slice b m d) p r l) ∧ Box ((w8.setCells gR 0 (tc (.slice a n c) (.slice b m d) p r l)).setCells gS 0 (sc s)) gS 35 (sc s) ∧ Later w ((w8.setCells gR 0 (tc (.slice a n c) (.slice b m d) p r l)).setCells gS 0 (sc s)) ∧
    Slt ((w8.setCells gR 0 (tc (.slice a n c) (.slice b m d) p r l)).setCells gS 0 (sc s)) (.agg #[.slice a n c, .slice b m d, .bool p, .bool r, .bool l]) n' F D p r l := by
  have h := slot_set (p := p) (r := r) (l := l) hR BR hn hl5 L M
  have hBS : Box (w8.setCells gR 0 (tc (.slice a n c) (.slice b m d) p r l)) gS 35 cz := BS.kept (heap_setCells_other w8 gR gS (fun e => hne e.symm) _ _)
  exact ⟨h.1.kept (heap_setCells_other _ gS gR hne _ _), hBS.all _ (by simp [hl3]), h.2.1.setCells hS _ 0, (Slt.mk' p r l h.2.2).setOff ⟨_, _, _, _, _, rfl, hoff.1, hoff.2⟩ _ _⟩

def ulS (p l : Bool) : Sns := if !p then (2, 58, 0) else if l then (5, 83, 2) else (0, 0, 0)
set_option maxRecDepth 20000 in
set_option maxHeartbeats 2000000 in
theorem rkeep_c {v : Value} {n : Nat} {F : List UInt8} {D : List Drt} {p r l : Bool} (on : Bool) (w : World) (h : Slt w v n F D p r l) :
    Calls Try.prog 18 #[v, .bool on] w fun e w' => ∃ v', e = .returned (.tuple #[v', sval (readyS p)]) ∧ Later w w' ∧ Slt w' v' n F D p r (if p then on else l) := by
  have HS := hide h
  obtain ⟨ab, cb, aD, k, cD, rfl, hm⟩ := h
  have HM := hide hm
  clear hm
  cases p with
  | true =>
    have L3 : Hid (Later w (((w.alloc (.cells #[.slice ab n cb, .slice aD k cD, .bool true, .bool r, .bool on] 27)).alloc (.cells #[.slice ab n cb, .slice aD k cD, .bool true, .bool r, .bool on] 27)).alloc (.cells #[.int .i64 0, .int .i64 0, .int .i64 0] 35))) := (((Later.refl w).alloc _).alloc _).alloc _
    go_enter Try.func18, Try.ntmps18
    go_wp2
    exact bodyPost_ret (results_cell_cell' rfl _ _ _ (w.heap.size + 1) 0 (w.heap.size + 1 + 1) 0 rfl rfl (.agg #[.slice ab n cb, .slice aD k cD, .bool true, .bool r, .bool on]) (sval (0, 0, 0)) (shut5 (cs := tc (.slice ab n cb) (.slice aD k cD) true r on) ((Box.new' _ _ _ _ rfl _ (by simp)).alloc _) rfl) (shut3 (s := (0, 0, 0)) (Box.new' _ _ _ _ rfl _ (by simp)))) rfl ⟨_, rfl, L3.out, Slt.mk' _ _ _ (HM.out.later L3.out)⟩
  | false =>
    have BX : Hid (Box (((w.alloc (.cells #[.slice ab n cb, .slice aD k cD, .bool false, .bool r, .bool l] 27)).alloc (.cells #[.slice none 0 0, .slice none 0 0, .bool false, .bool false, .bool false] 27)).alloc (.cells #[.int .i64 0, .int .i64 0, .int .i64 0] 35)) w.heap.size 27 (tc (.slice ab n cb) (.slice aD k cD) false r l)) := ((Box.new w 27 #[.slice ab n cb, .slice aD k cD, .bool false, .bool r, .bool l]).alloc _).alloc _
    have BR : Hid (Box (((w.alloc (.cells #[.slice ab n cb, .slice aD k cD, .bool false, .bool r, .bool l] 27)).alloc (.cells #[.slice none 0 0, .slice none 0 0, .bool false, .bool false, .bool false] 27)).alloc (.cells #[.int .i64 0, .int .i64 0, .int .i64 0] 35)) (w.heap.size + 1) 27 (tc (.slice none 0 0) (.slice none 0 0) false false false)) := (Box.new' _ _ _ _ rfl _ (by simp)).alloc _
    have BS : Hid (Box (((w.alloc (.cells #[.slice ab n cb, .slice aD k cD, .bool false, .bool r, .bool l] 27)).alloc (.cells #[.slice none 0 0, .slice none 0 0, .bool false, .bool false, .bool false] 27)).alloc (.cells #[.int .i64 0, .int .i64 0, .int .i64 0] 35)) (w.heap.size + 1 + 1) 35 (sc (0, 0, 0))) := Box.new' _ _ _ _ rfl _ (by simp)
    have L := hide ((((Later.refl w).alloc (.cells #[.slice ab n cb, .slice aD k cD, .bool false, .bool r, .bool l] 27)).alloc (.cells #[.slice none 0 0, .slice none 0 0, .bool false, .bool false, .bool false] 27)).alloc (.cells #[.int .i64 0, .int .i64 0, .int .i64 0] 35))
    go_enter Try.func18, Try.ntmps18
    go_wp2_with fail
    generalize (((w.alloc (.cells #[.slice ab n cb, .slice aD k cD, .bool false, .bool r, .bool l] 27)).alloc (.cells #[.slice none 0 0, .slice none 0 0, .bool false, .bool false, .bool false] 27)).alloc (.cells #[.int .i64 0, .int .i64 0, .int .i64 0] 35)) = w1 at *
    refine wp_region_tree [0, 1] [] [2, 3] (by kernel_rfl) (by kernel_rfl) (by kernel_rfl) (by kernel_rfl) ?_
    refine wpT_loadG rfl (by kernel_rfl) 27 (.tmp 2) rfl w.heap.size 0 rfl (tc (.slice ab n cb) (.slice aD k cD) false r l) _ ((World.rangeAt_drew _ _ _ _).2 BX.out.range) Try.underlying27 rfl Try.info_slot ?_
    refine wpT_call rfl (by kernel_rfl) 38 (Plain.of (by kernel_rfl)) [.const (.int .i64 2), .const (.int .i64 58), .const (.int .i64 0)] _ rfl [.int .i64 2, .int .i64 58, .int .i64 0] rfl (sval (2, 58, 0)) (fun wx hx => rof_c _ _ _ wx) ?_
    refine wpT_done (fun wx hwx => ?_)
    have hlx := (Later.refl w1).drew.trans hwx
    replace BR := hide (BR.out.later hlx)
    replace BS := hide (BS.out.later hlx)
    replace L := hide (L.out.later hlx)
    clear hwx hlx BX
    have hOff : Hid (OffS (w.heap.size + 1 + 1) (.slice ab n cb) ∧ OffS (w.heap.size + 1 + 1) (.slice aD k cD)) := by
      obtain ⟨a, b, p', r', l', e, h1, h2⟩ := HS.out.old (g := w.heap.size + 1 + 1) (by omega)
      simp at e
      obtain ⟨rfl, rfl, _⟩ := e
      exact ⟨h1, h2⟩
    have TS := hide (two_set false r l (2, 58, 0) (by omega) (by omega) (by omega) BR.out (tc_noints _ _ _ _ _ _ _ _ _) rfl BS.out rfl L.out (HM.out.later L.out) hOff.out)
    have ht3 : Hid ((wx.setCells (w.heap.size + 1) 0 (tc (.slice ab n cb) (.slice aD k cD) false r l)).there (w.heap.size + 1 + 1) 0 3) := (BS.out.kept (heap_setCells_other wx (w.heap.size + 1) (w.heap.size + 1 + 1) (by omega) _ _)).there 0 3 (by simp)
    refine wpL_store rfl (by kernel_rfl) 27 (.tmp 4) (.tmp 9) rfl (w.heap.size + 1) 0 (tc (.slice ab n cb) (.slice aD k cD) false r l) rfl rfl (BR.out.there 0 5 (by simp)) Try.info_slot (tc_one _ _ _ _ _ _ _ _ _) ?_
    refine wpL_store rfl (by kernel_rfl) 35 _ _ rfl (w.heap.size + 1 + 1) 0 (sc (2, 58, 0)) rfl rfl ht3.out Try.info_sense (sc_one _) (wpL_nil ?_)
    clear BR BS L ht3 hOff
    generalize ((wx.setCells (w.heap.size + 1) 0 (tc (.slice ab n cb) (.slice aD k cD) false r l)).setCells (w.heap.size + 1 + 1) 0 (sc (2, 58, 0))) = wz at *
    go_wp2
    exact bodyPost_ret (results_cell_cell' rfl _ _ _ (w.heap.size + 1) 0 (w.heap.size + 1 + 1) 0 rfl rfl (.agg #[.slice ab n cb, .slice aD k cD, .bool false, .bool r, .bool l]) (sval (2, 58, 0)) (shut5 TS.out.1 rfl) (shut3 TS.out.2.1)) rfl ⟨_, rfl, TS.out.2.2.1, TS.out.2.2.2⟩

set_option maxRecDepth 20000 in
set_option maxHeartbeats 2000000 in
theorem runload_c {v : Value} {n : Nat} {F : List UInt8} {D : List Drt} {p r l : Bool} (w : World) (h : Slt w v n F D p r l) :
    Calls Try.prog 16 #[v] w fun e w' => ∃ v', e = .returned (.tuple #[v', sval (ulS p l)]) ∧ Later w w' ∧ Slt w' v' n (btF p l n F D) (btD p l n D) (p && l) r l := by
  have HS := hide h
  obtain ⟨ab, cb, aD, k, cD, rfl, hm⟩ := h
  have HM := hide hm
  clear hm
  cases p with
  | false =>
    have hb : Hid (ulS false l = (2, 58, 0) ∧ btF false l n F D = F ∧ btD false l n D = D) := by simp [Hid, ulS, btF, btD]
    rw [hb.out.1, hb.out.2.1, hb.out.2.2]
    have BX : Hid (Box (((w.alloc (.cells #[.slice ab n cb, .slice aD k cD, .bool false, .bool r, .bool l] 27)).alloc (.cells #[.slice none 0 0, .slice none 0 0, .bool false, .bool false, .bool false] 27)).alloc (.cells #[.int .i64 0, .int .i64 0, .int .i64 0] 35)) w.heap.size 27 (tc (.slice ab n cb) (.slice aD k cD) false r l)) := ((Box.new w 27 #[.slice ab n cb, .slice aD k cD, .bool false, .bool r, .bool l]).alloc _).alloc _
    have BR : Hid (Box (((w.alloc (.cells #[.slice ab n cb, .slice aD k cD, .bool false, .bool r, .bool l] 27)).alloc (.cells #[.slice none 0 0, .slice none 0 0, .bool false, .bool false, .bool false] 27)).alloc (.cells #[.int .i64 0, .int .i64 0, .int .i64 0] 35)) (w.heap.size + 1) 27 (tc (.slice none 0 0) (.slice none 0 0) false false false)) := (Box.new' _ _ _ _ rfl _ (by simp)).alloc _
    have BS : Hid (Box (((w.alloc (.cells #[.slice ab n cb, .slice aD k cD, .bool false, .bool r, .bool l] 27)).alloc (.cells #[.slice none 0 0, .slice none 0 0, .bool false, .bool false, .bool false] 27)).alloc (.cells #[.int .i64 0, .int .i64 0, .int .i64 0] 35)) (w.heap.size + 1 + 1) 35 (sc (0, 0, 0))) := Box.new' _ _ _ _ rfl _ (by simp)
    have L := hide ((((Later.refl w).alloc (.cells #[.slice ab n cb, .slice aD k cD, .bool false, .bool r, .bool l] 27)).alloc (.cells #[.slice none 0 0, .slice none 0 0, .bool false, .bool false, .bool false] 27)).alloc (.cells #[.int .i64 0, .int .i64 0, .int .i64 0] 35))
    go_enter Try.func16, Try.ntmps16
    go_wp2_with fail
    generalize (((w.alloc (.cells #[.slice ab n cb, .slice aD k cD, .bool false, .bool r, .bool l] 27)).alloc (.cells #[.slice none 0 0, .slice none 0 0, .bool false, .bool false, .bool false] 27)).alloc (.cells #[.int .i64 0, .int .i64 0, .int .i64 0] 35)) = w1 at *
    refine wp_region_tree [0, 1] [] [2, 3] (by kernel_rfl) (by kernel_rfl) (by kernel_rfl) (by kernel_rfl) ?_
    refine wpT_loadG rfl (by kernel_rfl) 27 (.tmp 1) rfl w.heap.size 0 rfl (tc (.slice ab n cb) (.slice aD k cD) false r l) _ ((World.rangeAt_drew _ _ _ _).2 BX.out.range) Try.underlying27 rfl Try.info_slot ?_
    refine wpT_call rfl (by kernel_rfl) 38 (Plain.of (by kernel_rfl)) [.const (.int .i64 2), .const (.int .i64 58), .const (.int .i64 0)] _ rfl [.int .i64 2, .int .i64 58, .int .i64 0] rfl (sval (2, 58, 0)) (fun wx hx => rof_c _ _ _ wx) ?_
    refine wpT_done (fun wx hwx => ?_)
    have hlx := (Later.refl w1).drew.trans hwx
    replace BR := hide (BR.out.later hlx)
    replace BS := hide (BS.out.later hlx)
    replace L := hide (L.out.later hlx)
    clear hwx hlx BX
    have hOff : Hid (OffS (w.heap.size + 1 + 1) (.slice ab n cb) ∧ OffS (w.heap.size + 1 + 1) (.slice aD k cD)) := by
      obtain ⟨a, b, p', r', l', e, h1, h2⟩ := HS.out.old (g := w.heap.size + 1 + 1) (by omega)
      simp at e
      obtain ⟨rfl, rfl, _⟩ := e
      exact ⟨h1, h2⟩
    have TS := hide (two_set false r l (2, 58, 0) (by omega) (by omega) (by omega) BR.out (tc_noints _ _ _ _ _ _ _ _ _) rfl BS.out rfl L.out (HM.out.later L.out) hOff.out)
    have ht3 : Hid ((wx.setCells (w.heap.size + 1) 0 (tc (.slice ab n cb) (.slice aD k cD) false r l)).there (w.heap.size + 1 + 1) 0 3) := (BS.out.kept (heap_setCells_other wx (w.heap.size + 1) (w.heap.size + 1 + 1) (by omega) _ _)).there 0 3 (by simp)
    refine wpL_store rfl (by kernel_rfl) 27 (.tmp 2) (.tmp 9) rfl (w.heap.size + 1) 0 (tc (.slice ab n cb) (.slice aD k cD) false r l) rfl rfl (BR.out.there 0 5 (by simp)) Try.info_slot (tc_one _ _ _ _ _ _ _ _ _) ?_
    refine wpL_store rfl (by kernel_rfl) 35 _ _ rfl (w.heap.size + 1 + 1) 0 (sc (2, 58, 0)) rfl rfl ht3.out Try.info_sense (sc_one _) (wpL_nil ?_)
    clear BR BS L ht3 hOff
    generalize ((wx.setCells (w.heap.size + 1) 0 (tc (.slice ab n cb) (.slice aD k cD) false r l)).setCells (w.heap.size + 1 + 1) 0 (sc (2, 58, 0))) = wz at *
    go_wp2
    exact bodyPost_ret (results_cell_cell' rfl _ _ _ (w.heap.size + 1) 0 (w.heap.size + 1 + 1) 0 rfl rfl (.agg #[.slice ab n cb, .slice aD k cD, .bool false, .bool r, .bool l]) (sval (2, 58, 0)) (shut5 TS.out.1 rfl) (shut3 TS.out.2.1)) rfl ⟨_, rfl, TS.out.2.2.1, TS.out.2.2.2⟩
  | true =>
    cases l with
    | true =>
      have hb : Hid (ulS true true = (5, 83, 2) ∧ btF true true n F D = F ∧ btD true true n D = D) := by simp [Hid, ulS, btF, btD]
      rw [hb.out.1, hb.out.2.1, hb.out.2.2]
      have BX : Hid (Box (((w.alloc (.cells #[.slice ab n cb, .slice aD k cD, .bool true, .bool r, .bool true] 27)).alloc (.cells #[.slice none 0 0, .slice none 0 0, .bool false, .bool false, .bool false] 27)).alloc (.cells #[.int .i64 0, .int .i64 0, .int .i64 0] 35)) w.heap.size 27 (tc (.slice ab n cb) (.slice aD k cD) true r true)) := ((Box.new w 27 #[.slice ab n cb, .slice aD k cD, .bool true, .bool r, .bool true]).alloc _).alloc _
      have BR : Hid (Box (((w.alloc (.cells #[.slice ab n cb, .slice aD k cD, .bool true, .bool r, .bool true] 27)).alloc (.cells #[.slice none 0 0, .slice none 0 0, .bool false, .bool false, .bool false] 27)).alloc (.cells #[.int .i64 0, .int .i64 0, .int .i64 0] 35)) (w.heap.size + 1) 27 (tc (.slice none 0 0) (.slice none 0 0) false false false)) := (Box.new' _ _ _ _ rfl _ (by simp)).alloc _
      have BS : Hid (Box (((w.alloc (.cells #[.slice ab n cb, .slice aD k cD, .bool true, .bool r, .bool true] 27)).alloc (.cells #[.slice none 0 0, .slice none 0 0, .bool false, .bool false, .bool false] 27)).alloc (.cells #[.int .i64 0, .int .i64 0, .int .i64 0] 35)) (w.heap.size + 1 + 1) 35 (sc (0, 0, 0))) := Box.new' _ _ _ _ rfl _ (by simp)
      have L := hide ((((Later.refl w).alloc (.cells #[.slice ab n cb, .slice aD k cD, .bool true, .bool r, .bool true] 27)).alloc (.cells #[.slice none 0 0, .slice none 0 0, .bool false, .bool false, .bool false] 27)).alloc (.cells #[.int .i64 0, .int .i64 0, .int .i64 0] 35))
      go_enter Try.func16, Try.ntmps16
      go_wp2_with fail
      generalize (((w.alloc (.cells #[.slice ab n cb, .slice aD k cD, .bool true, .bool r, .bool true] 27)).alloc (.cells #[.slice none 0 0, .slice none 0 0, .bool false, .bool false, .bool false] 27)).alloc (.cells #[.int .i64 0, .int .i64 0, .int .i64 0] 35)) = w1 at *
      refine wp_region_tree [0, 1] [] [2, 3] (by kernel_rfl) (by kernel_rfl) (by kernel_rfl) (by kernel_rfl) ?_
      refine wpT_loadG rfl (by kernel_rfl) 27 (.tmp 1) rfl w.heap.size 0 rfl (tc (.slice ab n cb) (.slice aD k cD) true r true) _ ((World.rangeAt_drew _ _ _ _).2 BX.out.range) Try.underlying27 rfl Try.info_slot ?_
      refine wpT_call rfl (by kernel_rfl) 38 (Plain.of (by kernel_rfl)) [.const (.int .i64 5), .const (.int .i64 83), .const (.int .i64 2)] _ rfl [.int .i64 5, .int .i64 83, .int .i64 2] rfl (sval (5, 83, 2)) (fun wx hx => rof_c _ _ _ wx) ?_
      refine wpT_done (fun wx hwx => ?_)
      have hlx := (Later.refl w1).drew.trans hwx
      replace BR := hide (BR.out.later hlx)
      replace BS := hide (BS.out.later hlx)
      replace L := hide (L.out.later hlx)
      clear hwx hlx BX
      have hOff : Hid (OffS (w.heap.size + 1 + 1) (.slice ab n cb) ∧ OffS (w.heap.size + 1 + 1) (.slice aD k cD)) := by
        obtain ⟨a, b, p', r', l', e, h1, h2⟩ := HS.out.old (g := w.heap.size + 1 + 1) (by omega)
        simp at e
        obtain ⟨rfl, rfl, _⟩ := e
        exact ⟨h1, h2⟩
      have TS := hide (two_set true r true (5, 83, 2) (by omega) (by omega) (by omega) BR.out (tc_noints _ _ _ _ _ _ _ _ _) rfl BS.out rfl L.out (HM.out.later L.out) hOff.out)
      have ht3 : Hid ((wx.setCells (w.heap.size + 1) 0 (tc (.slice ab n cb) (.slice aD k cD) true r true)).there (w.heap.size + 1 + 1) 0 3) := (BS.out.kept (heap_setCells_other wx (w.heap.size + 1) (w.heap.size + 1 + 1) (by omega) _ _)).there 0 3 (by simp)
      refine wpL_store rfl (by kernel_rfl) 27 (.tmp 2) (.tmp 13) rfl (w.heap.size + 1) 0 (tc (.slice ab n cb) (.slice aD k cD) true r true) rfl rfl (BR.out.there 0 5 (by simp)) Try.info_slot (tc_one _ _ _ _ _ _ _ _ _) ?_
      refine wpL_store rfl (by kernel_rfl) 35 _ _ rfl (w.heap.size + 1 + 1) 0 (sc (5, 83, 2)) rfl rfl ht3.out Try.info_sense (sc_one _) (wpL_nil ?_)
      clear BR BS L ht3 hOff
      generalize ((wx.setCells (w.heap.size + 1) 0 (tc (.slice ab n cb) (.slice aD k cD) true r true)).setCells (w.heap.size + 1 + 1) 0 (sc (5, 83, 2))) = wz at *
      go_wp2
      exact bodyPost_ret (results_cell_cell' rfl _ _ _ (w.heap.size + 1) 0 (w.heap.size + 1 + 1) 0 rfl rfl (.agg #[.slice ab n cb, .slice aD k cD, .bool true, .bool r, .bool true]) (sval (5, 83, 2)) (shut5 TS.out.1 rfl) (shut3 TS.out.2.1)) rfl ⟨_, rfl, TS.out.2.2.1, TS.out.2.2.2⟩
    | false =>
      have BX : Hid (Box (((w.alloc (.cells #[.slice ab n cb, .slice aD k cD, .bool true, .bool r, .bool false] 27)).alloc (.cells #[.slice none 0 0, .slice none 0 0, .bool false, .bool false, .bool false] 27)).alloc (.cells #[.int .i64 0, .int .i64 0, .int .i64 0] 35)) w.heap.size 27 (tc (.slice ab n cb) (.slice aD k cD) true r false)) := ((Box.new w 27 #[.slice ab n cb, .slice aD k cD, .bool true, .bool r, .bool false]).alloc _).alloc _
      have BR : Hid (Box (((w.alloc (.cells #[.slice ab n cb, .slice aD k cD, .bool true, .bool r, .bool false] 27)).alloc (.cells #[.slice none 0 0, .slice none 0 0, .bool false, .bool false, .bool false] 27)).alloc (.cells #[.int .i64 0, .int .i64 0, .int .i64 0] 35)) (w.heap.size + 1) 27 (tc (.slice none 0 0) (.slice none 0 0) false false false)) := (Box.new' _ _ _ _ rfl _ (by simp)).alloc _
      have BS : Hid (Box (((w.alloc (.cells #[.slice ab n cb, .slice aD k cD, .bool true, .bool r, .bool false] 27)).alloc (.cells #[.slice none 0 0, .slice none 0 0, .bool false, .bool false, .bool false] 27)).alloc (.cells #[.int .i64 0, .int .i64 0, .int .i64 0] 35)) (w.heap.size + 1 + 1) 35 (sc (0, 0, 0))) := Box.new' _ _ _ _ rfl _ (by simp)
      have L := hide ((((Later.refl w).alloc (.cells #[.slice ab n cb, .slice aD k cD, .bool true, .bool r, .bool false] 27)).alloc (.cells #[.slice none 0 0, .slice none 0 0, .bool false, .bool false, .bool false] 27)).alloc (.cells #[.int .i64 0, .int .i64 0, .int .i64 0] 35))
      go_enter Try.func16, Try.ntmps16
      go_wp2_with fail
      generalize (((w.alloc (.cells #[.slice ab n cb, .slice aD k cD, .bool true, .bool r, .bool false] 27)).alloc (.cells #[.slice none 0 0, .slice none 0 0, .bool false, .bool false, .bool false] 27)).alloc (.cells #[.int .i64 0, .int .i64 0, .int .i64 0] 35)) = w1 at *
      refine (rbutton_c w1 (HS.out.later L.out)).mono ?_
      rintro e w3 ⟨v3, rfl, hl, h3, hN⟩
      have hO3 : Hid (OffT (w.heap.size + 1 + 1) v3) := hN _ BS.out.lt (HS.out.old (by omega))
      replace BR := hide (BR.out.later hl)
      replace BS := hide (BS.out.later hl)
      replace L := hide (L.out.later hl)
      clear hl hN BX
      obtain ⟨a3, c3, a6, k6, c6, rfl, hm3⟩ := h3
      have M := hide hm3
      clear hm3
      have hOff : Hid (OffS (w.heap.size + 1 + 1) (.slice a3 n c3) ∧ OffS (w.heap.size + 1 + 1) (.slice a6 k6 c6)) := by
        obtain ⟨a, b, p', r', l', e, h1, h2⟩ := hO3.out
        simp at e
        obtain ⟨rfl, rfl, _⟩ := e
        exact ⟨h1, h2⟩
      clear hO3
      go_wp2_with (refine wpList_new rfl rfl 27 rfl 4 rfl (by simp) (.tmp 18) (by simp) rfl #[.slice none 0 0, .slice none 0 0, .bool false, .bool false, .bool false] (tc (.slice a3 n c3) (.slice a6 k6 c6) false r false) Try.zero_slot rfl rfl (tc_one _ _ _ _ _ _ _ _ _) ?_)
      intro g4 w4 hB hl hg
      replace BR := hide (BR.out.later hl)
      replace BS := hide (BS.out.later hl)
      replace L := hide (L.out.later hl)
      replace M := hide (M.out.later hl)
      have B4 := hide hB
      clear hB hl hg
      have TS := hide (two_set false r false (0, 0, 0) (by omega) (by omega) (by omega) BR.out (tc_noints _ _ _ _ _ _ _ _ _) rfl BS.out rfl L.out M.out hOff.out)
      have BS5 := hide (BS.out.kept (heap_setCells_other w4 (w.heap.size + 1) (w.heap.size + 1 + 1) (by omega) (tc (.slice a3 n c3) (.slice a6 k6 c6) false r false) 0))
      have d0 := B4.out.cell 0
      have d1 := B4.out.cell 1
      have d2 := B4.out.cell 2
      have d3 := B4.out.cell 3
      have d4 := B4.out.cell 4
      go_wp2_with (refine wpList_storeT rfl 27 (.tmp 2) (.tmp 20) rfl (w.heap.size + 1) 0 rfl (tc (.slice a3 n c3) (.slice a6 k6 c6) false r false) rfl Try.info_slot (tc_one _ _ _ _ _ _ _ _ _) _ _ BR.out (by simp) ?_)
      intro w5 hw5
      rw [← hw5.out] at TS BS5
      clear hw5 BR BS L M d0 d1 d2 d3 d4 B4
      go_wp2_with (refine wpList_storeT rfl 35 (.tmp 3) (.tmp 21) rfl (w.heap.size + 1 + 1) 0 rfl (sc (0, 0, 0)) rfl Try.info_sense (sc_one _) _ _ BS5.out (by simp) ?_)
      intro w6 hw6
      rw [← hw6.out] at TS
      clear hw6 BS5
      go_wp2
      exact bodyPost_ret (results_cell_cell' rfl _ _ _ (w.heap.size + 1) 0 (w.heap.size + 1 + 1) 0 rfl rfl (.agg #[.slice a3 n c3, .slice a6 k6 c6, .bool false, .bool r, .bool false]) (sval (0, 0, 0)) (shut5 TS.out.1 rfl) (shut3 TS.out.2.1)) rfl ⟨_, rfl, TS.out.2.2.1, TS.out.2.2.2⟩
end Go.Proofs.Ytkbpecbpfajkfaa

namespace Go.Proofs.Ytkbpecbpfajkfaa
open Go.ChangeShapes Go.WideShapes Go.ChangeAt Go.RowKit
set_option linter.unusedVariables false
set_option linter.unusedSimpArgs false

/-! The document's answers for slots: Read. -/
theorem checkS_zero {n : Nat} {D : List Drt} {p r : Bool} {at_ : Nat} {m : Int} {wr : Bool} (h : checkS n D p r at_ m wr = (0, 0, 0)) : p = true ∧ (r && wr) = false ∧ withinB (allN n D) at_ m = true := by
  unfold checkS at h
  cases p with
  | false => simp at h
  | true =>
    simp only [Bool.not_true, Bool.false_eq_true, if_false] at h
    split at h
    · simp at h
    · rename_i h1
      split at h
      · rename_i h2; exact ⟨rfl, by simpa using h1, h2⟩
      · simp at h
def rdL (n : Nat) (F : List UInt8) (D : List Drt) (S : Sns) (at_ : Nat) (m : Int) : List UInt8 := if S == (0, 0, 0) then seg (allF n F D) (at_ * 64) (m.toNat * 64) else []
theorem allN_small (n : Nat) (D : List Drt) : allN n D ≤ 64 := by
  unfold allN
  split
  · rename_i h; simp only [rightB, decide_eq_true_eq] at h; exact h.1
  · omega
set_option maxRecDepth 20000 in
set_option maxHeartbeats 2000000 in
theorem rread5_c {v : Value} {n : Nat} {F : List UInt8} {D : List Drt} {p r l : Bool} (at_ : Nat) (m : Int) (w : World) (h : Slt w v n F D p r l) (ha : at_ ≤ 18446744073709551615) :
    Calls Try.prog 29 #[v, .int .u64 at_, .int .i64 m] w fun e w' => ∃ v', e = .returned (.tuple #[v', sval (checkS n D p r at_ m false)]) ∧ Later w w' ∧ Bs w' v' (rdL n F D (checkS n D p r at_ m false) at_ m) := by
  have HS := hide h
  obtain ⟨ab, cb, aD, k, cD, rfl, hm⟩ := h
  have HM := hide hm
  clear hm
  have BX : Hid (Box ((w.alloc (.cells #[.slice ab n cb, .slice aD k cD, .bool p, .bool r, .bool l] 27)).alloc (.cells #[.int .i64 0, .int .i64 0, .int .i64 0] 35)) w.heap.size 27 (tc (.slice ab n cb) (.slice aD k cD) p r l)) := (Box.new w 27 #[.slice ab n cb, .slice aD k cD, .bool p, .bool r, .bool l]).alloc _
  have BS : Hid (Box ((w.alloc (.cells #[.slice ab n cb, .slice aD k cD, .bool p, .bool r, .bool l] 27)).alloc (.cells #[.int .i64 0, .int .i64 0, .int .i64 0] 35)) (w.heap.size + 1) 35 (sc (0, 0, 0))) := Box.new' _ _ _ _ rfl _ (by simp)
  have L := hide (((Later.refl w).alloc (.cells #[.slice ab n cb, .slice aD k cD, .bool p, .bool r, .bool l] 27)).alloc (.cells #[.int .i64 0, .int .i64 0, .int .i64 0] 35))
  go_enter Try.func29, Try.ntmps29
  go_wp2_with fail
  generalize ((w.alloc (.cells #[.slice ab n cb, .slice aD k cD, .bool p, .bool r, .bool l] 27)).alloc (.cells #[.int .i64 0, .int .i64 0, .int .i64 0] 35)) = w1 at *
  refine (rcheck_c at_ m false w1 (HS.out.later L.out) ha).mono ?_
  rintro e w2 ⟨rfl, hl⟩
  replace BX := hide (BX.out.later hl)
  replace BS := hide (BS.out.later hl)
  replace L := hide (L.out.later hl)
  clear hl
  have HZ := hide (fun h => checkS_zero (n := n) (D := D) (p := p) (r := r) (at_ := at_) (m := m) (wr := false) h)
  generalize hS : checkS n D p r at_ m false = S at *
  have HSv := hide hS
  clear hS
  go_wp2_with (refine wpList_newS rfl rfl rfl 8 rfl (by simp) (.tmp 14) (by simp) rfl S rfl ?_)
  intro g8 w3 hB hl hg
  replace BX := hide (BX.out.later hl)
  replace BS := hide (BS.out.later hl)
  replace L := hide (L.out.later hl)
  have B8 := hide hB
  clear hB hl hg
  have e0 := B8.out.cell 0
  have e1 := B8.out.cell 1
  have e2 := B8.out.cell 2
  cases hz : (S == ((0, 0, 0) : Sns)) with
  | false =>
    have hRd : Hid (rdL n F D S at_ m = []) := by simp only [Hid, rdL, hz]; rfl
    go_wp2_with (refine wpList_neqS (by kernel_rfl) (.tmp 15) (.tmp 16) rfl S (0, 0, 0) rfl rfl ?_; rw [hz])
    clear e0 e1 e2
    refine wp_region_tree [0, 1] [] [2] (by kernel_rfl) (by kernel_rfl) (by kernel_rfl) (by kernel_rfl) ?_
    refine wpT_loadG rfl (by kernel_rfl) 35 (.tmp 8) rfl g8 0 rfl (sc S) _ ((World.rangeAt_drew _ _ _ _).2 B8.out.range) Try.underlying35 rfl Try.info_sense ?_
    refine wpT_mild rfl (fun K hK => ?_)
    go_simp
    refine hK _ ?_
    clear hK K
    refine wpT_done (fun wx hwx => ?_)
    have hlx := (Later.refl w3).drew.trans hwx
    replace BS := hide (BS.out.later hlx)
    replace L := hide (L.out.later hlx)
    clear hwx hlx BX B8
    refine wpL_store rfl (by kernel_rfl) 35 (.tmp 7) (.tmp 18) rfl (w.heap.size + 1) 0 (sc S) rfl rfl (BS.out.there 0 3 (by simp)) Try.info_sense (sc_one _) (wpL_nil ?_)
    have BZ := hide (BS.out.all (sc S) rfl)
    have LZ := hide (L.out.setCells (g := w.heap.size + 1) (by omega) (sc S) 0)
    clear BS L
    generalize (wx.setCells (w.heap.size + 1) 0 (sc S)) = wz at *
    go_wp2
    refine bodyPost_ret (results_tmp_cell' rfl _ _ _ (w.heap.size + 1) 0 rfl (sval S) (.slice none 0 0) (shut3 BZ.out) rfl) rfl ⟨.slice none 0 0, ?_, LZ.out, ?_⟩
    · rw [HSv.out]
    · rw [HSv.out, hRd.out]; exact Bs.nil _
  | true =>
    obtain rfl : S = (0, 0, 0) := eq_of_beq hz
    have hq := HZ.out rfl
    have hRd : Hid (rdL n F D (0, 0, 0) at_ m = readL (allN n D) (allF n F D) at_ m) := by
      have h1 := allN_small n D
      simp only [Hid, rdL, readL, hz, if_true, if_neg (show ¬ 64 < allN n D by omega), hq.2.2]
    clear hq HZ hz
    have d0 := BX.out.cell 0
    have d1 := BX.out.cell 1
    go_wp2_with (refine wpList_neqS (by kernel_rfl) (.tmp 15) (.tmp 16) rfl (0, 0, 0) (0, 0, 0) rfl rfl ?_; rw [show (((0, 0, 0) : Sns) == (0, 0, 0)) = true from rfl])
    refine (rall_c w3 (HM.out.later L.out)).mono ?_
    rintro e w4 ⟨v4, rfl, hl, h4⟩
    replace BX := hide (BX.out.later hl)
    replace BS := hide (BS.out.later hl)
    replace L := hide (L.out.later hl)
    replace B8 := hide (B8.out.later hl)
    have R4 := hide (Rw.of_owns h4)
    clear hl h4 d0 d1 e0 e1 e2
    obtain ⟨a4, c4, rfl⟩ := R4.out.shape
    go_wp2_with fail
    refine (rread_c at_ m w4 R4.out ha).mono ?_
    rintro e w5 ⟨v5, rfl, hl, h5⟩
    rw [← hRd.out] at h5
    have O5 : Hid (w5.ownsRow w.heap.size 5 1 v5 (rdL n F D (0, 0, 0) at_ m).length (bv (rdL n F D (0, 0, 0) at_ m))) := owns_rebase h5 L.out.size
    replace BX := hide (BX.out.later hl)
    replace BS := hide (BS.out.later hl)
    replace L := hide (L.out.later hl)
    replace B8 := hide (B8.out.later hl)
    clear hl h5 R4
    go_wp2_with fail
    refine wp_region_tree [0, 1, 2] [] [3] (by kernel_rfl) (by kernel_rfl) (by kernel_rfl) (by kernel_rfl) ?_
    refine wpT_mild rfl (fun K hK => ?_)
    go_simp
    refine hK _ ?_
    clear hK K
    refine wpT_loadG rfl (by kernel_rfl) 35 (.tmp 8) rfl g8 0 rfl (sc (0, 0, 0)) _ ((World.rangeAt_drew _ _ _ _).2 B8.out.range) Try.underlying35 rfl Try.info_sense ?_
    refine wpT_mild rfl (fun K hK => ?_)
    go_simp
    refine hK _ ?_
    clear hK K
    refine wpT_done (fun wx hwx => ?_)
    have hlx := (Later.refl w5).drew.trans hwx
    replace BS := hide (BS.out.later hlx)
    replace L := hide (L.out.later hlx)
    have B5 := hide (owns_later O5.out hlx)
    clear hwx hlx BX B8 O5
    refine wpL_store rfl (by kernel_rfl) 35 (.tmp 7) (.tmp 29) rfl (w.heap.size + 1) 0 (sc (0, 0, 0)) rfl rfl (BS.out.there 0 3 (by simp)) Try.info_sense (sc_one _) (wpL_nil ?_)
    have BZ := hide (BS.out.all (sc (0, 0, 0)) rfl)
    have LZ := hide (L.out.setCells (g := w.heap.size + 1) (by omega) (sc (0, 0, 0)) 0)
    have OZ : Hid ((wx.setCells (w.heap.size + 1) 0 (sc (0, 0, 0))).ownsRow w.heap.size 5 1 v5 (rdL n F D (0, 0, 0) at_ m).length (bv (rdL n F D (0, 0, 0) at_ m))) := owns_kept B5.out fun g hg => heap_setCells_other wx (w.heap.size + 1) g (fun e => box_ne_own BS.out B5.out (by decide) g hg e.symm) _ _
    clear BS L B5
    generalize (wx.setCells (w.heap.size + 1) 0 (sc (0, 0, 0))) = wz at *
    go_wp2
    refine bodyPost_ret (results_tmp_cell' rfl _ _ _ (w.heap.size + 1) 0 rfl (sval (0, 0, 0)) v5 (shut3 BZ.out) rfl) rfl ⟨v5, ?_, LZ.out, ?_⟩
    · rw [HSv.out]
    · rw [HSv.out]; exact (Bs.of_owns OZ.out).1
end Go.Proofs.Ytkbpecbpfajkfaa
