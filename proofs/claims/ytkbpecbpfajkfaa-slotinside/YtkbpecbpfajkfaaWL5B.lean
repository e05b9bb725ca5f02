import Derived.Test.YtkbpecbpfajkfaaMAT
import Derived.Test.YtkbpecbpfajkfaaMAU
import Derived.Test.YtkbpecbpfajkfaaMAV
namespace Go.Proofs.Ytkbpecbpfajkfaa
open Go.ChangeShapes Go.WideShapes Go.ChangeAt Go.RowKit
set_option linter.unusedVariables false
set_option linter.unusedSimpArgs false

set_option maxRecDepth 20000 in
set_option maxHeartbeats 8000000 in
theorem slotInside_walk (hal : Alive5) (v0 v1 : Value) (w : World) (h0 : RSlot w v0) (h1 : RBool v1) :
    Calls Try.prog 7 #[v0, v1] w fun e w' => e = .returned (.bool true) ∧ Below w.heap.size w w' := by
  obtain ⟨n, F, D, p, r, l, hs⟩ := h0
  obtain ⟨bt, rfl⟩ := h1
  have S := hide hs
  obtain ⟨ab, cb, aD, k, cD, rfl, HK, hn, hk⟩ := hs.shape
  have HM := hide hs.med
  clear hs
  have BX : Hid (Box (w.alloc (.cells #[.slice ab n cb, .slice aD k cD, .bool p, .bool r, .bool l] 27)) w.heap.size 27 (tc (.slice ab n cb) (.slice aD k cD) p r l)) := Box.new w 27 #[.slice ab n cb, .slice aD k cD, .bool p, .bool r, .bool l]
  have L := hide ((Later.refl w).alloc (.cells #[.slice ab n cb, .slice aD k cD, .bool p, .bool r, .bool l] 27))
  go_enter Try.func7, Try.ntmps7
  go_wp2_with fail
  refine (hal _).mono ?_
  rintro e w1 ⟨rfl, hl⟩
  replace BX := hide (BX.out.later hl)
  replace L := hide (L.out.later hl)
  clear hl
  have d0 := BX.out.cell 0
  have d1 := BX.out.cell 1
  go_wp2_with fail
  refine (rgreat_c _ (HM.out.later L.out)).mono ?_
  rintro e w2 ⟨rfl, hl⟩
  replace BX := hide (BX.out.later hl)
  replace L := hide (L.out.later hl)
  clear hl d0 d1
  cases hg : greatB n D with
  | true =>
    go_wp2
    go_ret
    exact ⟨rfl, L.out⟩
  | false =>
    have hnk : n ≤ 70 ∧ k ≤ 70 := by have := HK.out; simp [greatB] at hg; omega
    have HD : Hid (D.length ≤ 100) := by have := HK.out; unfold Hid; omega
    clear hg
    have d0 := BX.out.cell 0
    have d1 := BX.out.cell 1
    go_wp2_with fail
    refine (rright_c _ (HM.out.later L.out)).mono ?_
    rintro e w3 ⟨rfl, hl⟩
    replace BX := hide (BX.out.later hl)
    replace L := hide (L.out.later hl)
    clear hl d0 d1
    cases hR : rightB n D with
    | false =>
      go_wp2
      go_ret
      exact ⟨rfl, L.out⟩
    | true =>
      have HR := hide hR
      clear hR
      have d0 := BX.out.cell 0
      have d1 := BX.out.cell 1
      have d2 := BX.out.cell 2
      have d3 := BX.out.cell 3
      have d4 := BX.out.cell 4
      go_wp2_with fail
      refine (sunload_c _ n F D p r l w3 (S.out.later L.out) (by omega) HD.out).mono ?_
      rintro e w4 ⟨v4, rfl, hl, h4⟩
      clear d0 d1 d2 d3 d4
      replace BX := hide (BX.out.later hl)
      replace L := hide (L.out.later hl)
      have SX := hide h4
      obtain ⟨ax, cx, bx, kx, dx, rfl, _, _, _⟩ := h4.shape
      clear hl h4
      have HG := hide (ulS_good p l)
      generalize ulS p l = U at *
      go_wp2_with (refine wpList_newTS rfl rfl rfl rfl rfl rfl 5 6 rfl rfl (by simp) (by simp) (by decide) (.tmp 24) (.tmp 25) (by simp) (by simp) (by simp) (by simp) rfl rfl rfl rfl ax bx n cx kx dx (p && l) r l U rfl rfl ?_)
      intro gV gU w5 hB hB2 hl hg
      have hgV : w.heap.size ≠ gV ∧ w.heap.size ≤ gV := by have h1 := BX.out.lt; have h2 := hg.out.1; omega
      replace BX := hide (BX.out.later hl)
      replace L := hide (L.out.later hl)
      replace SX := hide (SX.out.later hl)
      have BV := hide hB
      have BU := hide hB2
      clear hl hB hB2 hg
      cases bt with
      | false =>
        have u0 := BU.out.cell 0
        have u1 := BU.out.cell 1
        have u2 := BU.out.cell 2
        cases p with
        | false =>
          cases l with
          | false =>
            have hpl : Hid (Slt w5 (.agg #[.slice ax n cx, .slice bx kx dx, .bool false, .bool r, .bool false]) n (btF false false n F D) (btD false false n D) false r false) := SX.out
            have d0 := BX.out.cell 0
            have d1 := BX.out.cell 1
            have d2 := BX.out.cell 2
            have d3 := BX.out.cell 3
            have d4 := BX.out.cell 4
            have x0 := BV.out.cell 0
            have x1 := BV.out.cell 1
            have x2 := BV.out.cell 2
            have x3 := BV.out.cell 3
            have x4 := BV.out.cell 4
            go_wp2_with (refine wpList_eqS (by kernel_rfl) (.tmp 26) (.tmp 27) rfl U (0, 0, 0) rfl rfl ?_; rw [HG.out])
            refine (sinsert_c _ n _ _ false r false _ hpl.out (by omega) (bt_small _ _ HD.out)).mono ?_
            rintro e w8 ⟨v8, rfl, hl, h8⟩
            clear d0 d1 d2 d3 d4 x0 x1 x2 x3 x4 hpl SX
            try clear u0 u1 u2 BU
            replace BX := hide (BX.out.later hl)
            replace L := hide (L.out.later hl)
            replace BV := hide (BV.out.later hl)
            have SY := hide h8
            obtain ⟨ay, cy, bY, ky, dy, rfl, _, _, _⟩ := h8.shape
            clear hl h8
            go_wp2_with (refine wpList_newT rfl rfl rfl 8 rfl (by simp) (.tmp 54) (by simp) rfl ay bY n cy ky dy true r false rfl ?_)
            intro gY w9 hB hl hg
            replace BX := hide (BX.out.later hl)
            replace L := hide (L.out.later hl)
            replace BV := hide (BV.out.later hl)
            replace SY := hide (SY.out.later hl)
            have BY := hide hB
            clear hl hB hg
            go_wp2_with fail
            have hwc := (Later.refl w9).drew
            have hc := fun r => (hwc.trans (later_rg w9.drew r))
            have x0 := fun r => (BX.out.later (hc r)).cell 0
            have x1 := fun r => (BX.out.later (hc r)).cell 1
            have x2 := fun r => (BV.out.later (hc r)).cell 2
            have y0 := fun r => (BY.out.later (hc r)).cell 0
            have y1 := fun r => (BY.out.later (hc r)).cell 1
            have y2 := fun r => (BY.out.later (hc r)).cell 2
            refine wp_region_sched ((List.range 12).map (fun i => (i, false)) ++ [(13, false), (14, false), (12, true), (15, true)] ++ (List.range 10).map (fun i => (i + 16, false))) (by kernel_rfl) (by kernel_rfl) (by kernel_rfl) (by kernel_rfl) ?_
            simp only [List.range, List.range.loop, List.map, List.cons_append, List.nil_append]
            iterate 14 (refine wpS_mild rfl (fun K hK => ?_); go_simp; refine hK _ ?_; clear hK K)
            clear x0 x1 x2 y0 y1 y2 hc
            refine wpS_callL rfl (by kernel_rfl) 36 (Plain.of (by kernel_rfl)) [.tmp 67] _ rfl [.agg #[.slice ay n cy, .slice bY ky dy]] rfl (fun v w' => Rw 64 w' v n (bv (app F D))) (fun wx hx => ?c1) ?_
            case c1 =>
              have hq := rall_b wx (Slt.med (SY.out.later (hwc.trans hx)))
              rw [(all_bt false false HR.out).1, (all_bt (F := F) false false HR.out).2] at hq
              exact hq
            intro v1 d1 hd1 R1
            refine wpS_callL rfl (by kernel_rfl) 36 (Plain.of (by kernel_rfl)) [.tmp 70] _ rfl [.agg #[.slice ab n cb, .slice aD k cD]] rfl (fun v w' => Rw 64 w' v n (bv (app F D))) (fun wx hx => ?c1) ?_
            case c1 =>
              have hq := rall_b wx (HM.out.later (L.out.trans (hwc.trans (hd1.trans hx))))
              rw [show allN n D = n from by simp [allN, HR.out], show allF n F D = app F D from by simp [allF, HR.out]] at hq
              exact hq
            intro v2 d2 hd2 R2
            refine wpS_call rfl (by kernel_rfl) 39 (Plain.of (by kernel_rfl)) [.tmp 68, .tmp 71] _ rfl [v1, v2] rfl (.bool true) (fun wx hx => ?c2) ?_
            case c2 =>
              refine (rsame_c _ (R1.later (hd2.trans hx)) (R2.later hx)).mono fun e w' ⟨he, hl⟩ => ⟨?_, hl⟩
              rw [he]; simp
            have hd := hwc.trans (hd1.trans hd2)
            have hc' := fun r => hd.trans (later_rg d2 r)
            have x3 := fun r => (BX.out.later (hc' r)).cell 3
            have y3 := fun r => (BY.out.later (hc' r)).cell 3
            iterate 9 (refine wpS_mild rfl (fun K hK => ?_); go_simp; refine hK _ ?_; clear hK K)
            clear x3 y3 hc'
            refine wpS_nil (fun wx hx => ?_)
            have LX := hide (L.out.trans (hd.trans hx))
            clear hx
            go_wp2
            go_ret
            exact ⟨by first | rfl | simp, LX.out⟩
          | true =>
            have hpl : Hid (Slt w5 (.agg #[.slice ax n cx, .slice bx kx dx, .bool false, .bool r, .bool true]) n (btF false true n F D) (btD false true n D) false r true) := SX.out
            have d0 := BX.out.cell 0
            have d1 := BX.out.cell 1
            have d2 := BX.out.cell 2
            have d3 := BX.out.cell 3
            have d4 := BX.out.cell 4
            have x0 := BV.out.cell 0
            have x1 := BV.out.cell 1
            have x2 := BV.out.cell 2
            have x3 := BV.out.cell 3
            have x4 := BV.out.cell 4
            go_wp2_with (refine wpList_eqS (by kernel_rfl) (.tmp 26) (.tmp 27) rfl U (0, 0, 0) rfl rfl ?_; rw [HG.out])
            refine (sinsert_c _ n _ _ false r true _ hpl.out (by omega) (bt_small _ _ HD.out)).mono ?_
            rintro e w8 ⟨v8, rfl, hl, h8⟩
            clear d0 d1 d2 d3 d4 x0 x1 x2 x3 x4 hpl SX
            try clear u0 u1 u2 BU
            replace BX := hide (BX.out.later hl)
            replace L := hide (L.out.later hl)
            replace BV := hide (BV.out.later hl)
            have SY := hide h8
            obtain ⟨ay, cy, bY, ky, dy, rfl, _, _, _⟩ := h8.shape
            clear hl h8
            go_wp2_with (refine wpList_newT rfl rfl rfl 8 rfl (by simp) (.tmp 54) (by simp) rfl ay bY n cy ky dy true r true rfl ?_)
            intro gY w9 hB hl hg
            replace BX := hide (BX.out.later hl)
            replace L := hide (L.out.later hl)
            replace BV := hide (BV.out.later hl)
            replace SY := hide (SY.out.later hl)
            have BY := hide hB
            clear hl hB hg
            go_wp2_with fail
            have hwc := (Later.refl w9).drew
            have hc := fun r => (hwc.trans (later_rg w9.drew r))
            have x0 := fun r => (BX.out.later (hc r)).cell 0
            have x1 := fun r => (BX.out.later (hc r)).cell 1
            have x2 := fun r => (BV.out.later (hc r)).cell 2
            have y0 := fun r => (BY.out.later (hc r)).cell 0
            have y1 := fun r => (BY.out.later (hc r)).cell 1
            have y2 := fun r => (BY.out.later (hc r)).cell 2
            refine wp_region_sched ((List.range 12).map (fun i => (i, false)) ++ [(13, false), (14, false), (12, true), (15, true)] ++ (List.range 10).map (fun i => (i + 16, false))) (by kernel_rfl) (by kernel_rfl) (by kernel_rfl) (by kernel_rfl) ?_
            simp only [List.range, List.range.loop, List.map, List.cons_append, List.nil_append]
            iterate 14 (refine wpS_mild rfl (fun K hK => ?_); go_simp; refine hK _ ?_; clear hK K)
            clear x0 x1 x2 y0 y1 y2 hc
            refine wpS_callL rfl (by kernel_rfl) 36 (Plain.of (by kernel_rfl)) [.tmp 67] _ rfl [.agg #[.slice ay n cy, .slice bY ky dy]] rfl (fun v w' => Rw 64 w' v n (bv (app F D))) (fun wx hx => ?c1) ?_
            case c1 =>
              have hq := rall_b wx (Slt.med (SY.out.later (hwc.trans hx)))
              rw [(all_bt false true HR.out).1, (all_bt (F := F) false true HR.out).2] at hq
              exact hq
            intro v1 d1 hd1 R1
            refine wpS_callL rfl (by kernel_rfl) 36 (Plain.of (by kernel_rfl)) [.tmp 70] _ rfl [.agg #[.slice ab n cb, .slice aD k cD]] rfl (fun v w' => Rw 64 w' v n (bv (app F D))) (fun wx hx => ?c1) ?_
            case c1 =>
              have hq := rall_b wx (HM.out.later (L.out.trans (hwc.trans (hd1.trans hx))))
              rw [show allN n D = n from by simp [allN, HR.out], show allF n F D = app F D from by simp [allF, HR.out]] at hq
              exact hq
            intro v2 d2 hd2 R2
            refine wpS_call rfl (by kernel_rfl) 39 (Plain.of (by kernel_rfl)) [.tmp 68, .tmp 71] _ rfl [v1, v2] rfl (.bool true) (fun wx hx => ?c2) ?_
            case c2 =>
              refine (rsame_c _ (R1.later (hd2.trans hx)) (R2.later hx)).mono fun e w' ⟨he, hl⟩ => ⟨?_, hl⟩
              rw [he]; simp
            have hd := hwc.trans (hd1.trans hd2)
            have hc' := fun r => hd.trans (later_rg d2 r)
            have x3 := fun r => (BX.out.later (hc' r)).cell 3
            have y3 := fun r => (BY.out.later (hc' r)).cell 3
            iterate 9 (refine wpS_mild rfl (fun K hK => ?_); go_simp; refine hK _ ?_; clear hK K)
            clear x3 y3 hc'
            refine wpS_nil (fun wx hx => ?_)
            have LX := hide (L.out.trans (hd.trans hx))
            clear hx
            go_wp2
            go_ret
            exact ⟨by first | rfl | simp, LX.out⟩
        | true =>
          cases l with
          | false =>
            have hpl : Hid (Slt w5 (.agg #[.slice ax n cx, .slice bx kx dx, .bool false, .bool r, .bool false]) n (btF true false n F D) (btD true false n D) false r false) := SX.out
            have d0 := BX.out.cell 0
            have d1 := BX.out.cell 1
            have d2 := BX.out.cell 2
            have d3 := BX.out.cell 3
            have d4 := BX.out.cell 4
            have x0 := BV.out.cell 0
            have x1 := BV.out.cell 1
            have x2 := BV.out.cell 2
            have x3 := BV.out.cell 3
            have x4 := BV.out.cell 4
            go_wp2_with (refine wpList_eqS (by kernel_rfl) (.tmp 26) (.tmp 27) rfl U (0, 0, 0) rfl rfl ?_; rw [HG.out])
            refine (sinsert_c _ n _ _ false r false _ hpl.out (by omega) (bt_small _ _ HD.out)).mono ?_
            rintro e w8 ⟨v8, rfl, hl, h8⟩
            clear d0 d1 d2 d3 d4 x0 x1 x2 x3 x4 hpl SX
            try clear u0 u1 u2 BU
            replace BX := hide (BX.out.later hl)
            replace L := hide (L.out.later hl)
            replace BV := hide (BV.out.later hl)
            have SY := hide h8
            obtain ⟨ay, cy, bY, ky, dy, rfl, _, _, _⟩ := h8.shape
            clear hl h8
            go_wp2_with (refine wpList_newT rfl rfl rfl 8 rfl (by simp) (.tmp 54) (by simp) rfl ay bY n cy ky dy true r false rfl ?_)
            intro gY w9 hB hl hg
            replace BX := hide (BX.out.later hl)
            replace L := hide (L.out.later hl)
            replace BV := hide (BV.out.later hl)
            replace SY := hide (SY.out.later hl)
            have BY := hide hB
            clear hl hB hg
            go_wp2_with fail
            have hwc := (Later.refl w9).drew
            have hc := fun r => (hwc.trans (later_rg w9.drew r))
            have x0 := fun r => (BX.out.later (hc r)).cell 0
            have x1 := fun r => (BX.out.later (hc r)).cell 1
            have x2 := fun r => (BV.out.later (hc r)).cell 2
            have y0 := fun r => (BY.out.later (hc r)).cell 0
            have y1 := fun r => (BY.out.later (hc r)).cell 1
            have y2 := fun r => (BY.out.later (hc r)).cell 2
            refine wp_region_sched ((List.range 12).map (fun i => (i, false)) ++ [(13, false), (14, false), (12, true), (15, true)] ++ (List.range 10).map (fun i => (i + 16, false))) (by kernel_rfl) (by kernel_rfl) (by kernel_rfl) (by kernel_rfl) ?_
            simp only [List.range, List.range.loop, List.map, List.cons_append, List.nil_append]
            iterate 14 (refine wpS_mild rfl (fun K hK => ?_); go_simp; refine hK _ ?_; clear hK K)
            clear x0 x1 x2 y0 y1 y2 hc
            refine wpS_callL rfl (by kernel_rfl) 36 (Plain.of (by kernel_rfl)) [.tmp 67] _ rfl [.agg #[.slice ay n cy, .slice bY ky dy]] rfl (fun v w' => Rw 64 w' v n (bv (app F D))) (fun wx hx => ?c1) ?_
            case c1 =>
              have hq := rall_b wx (Slt.med (SY.out.later (hwc.trans hx)))
              rw [(all_bt true false HR.out).1, (all_bt (F := F) true false HR.out).2] at hq
              exact hq
            intro v1 d1 hd1 R1
            refine wpS_callL rfl (by kernel_rfl) 36 (Plain.of (by kernel_rfl)) [.tmp 70] _ rfl [.agg #[.slice ab n cb, .slice aD k cD]] rfl (fun v w' => Rw 64 w' v n (bv (app F D))) (fun wx hx => ?c1) ?_
            case c1 =>
              have hq := rall_b wx (HM.out.later (L.out.trans (hwc.trans (hd1.trans hx))))
              rw [show allN n D = n from by simp [allN, HR.out], show allF n F D = app F D from by simp [allF, HR.out]] at hq
              exact hq
            intro v2 d2 hd2 R2
            refine wpS_call rfl (by kernel_rfl) 39 (Plain.of (by kernel_rfl)) [.tmp 68, .tmp 71] _ rfl [v1, v2] rfl (.bool true) (fun wx hx => ?c2) ?_
            case c2 =>
              refine (rsame_c _ (R1.later (hd2.trans hx)) (R2.later hx)).mono fun e w' ⟨he, hl⟩ => ⟨?_, hl⟩
              rw [he]; simp
            have hd := hwc.trans (hd1.trans hd2)
            have hc' := fun r => hd.trans (later_rg d2 r)
            have x3 := fun r => (BX.out.later (hc' r)).cell 3
            have y3 := fun r => (BY.out.later (hc' r)).cell 3
            iterate 9 (refine wpS_mild rfl (fun K hK => ?_); go_simp; refine hK _ ?_; clear hK K)
            clear x3 y3 hc'
            refine wpS_nil (fun wx hx => ?_)
            have LX := hide (L.out.trans (hd.trans hx))
            clear hx
            go_wp2
            go_ret
            exact ⟨by first | rfl | simp, LX.out⟩
          | true =>
            have hpl : Hid (Slt w5 (.agg #[.slice ax n cx, .slice bx kx dx, .bool true, .bool r, .bool true]) n (btF true true n F D) (btD true true n D) true r true) := SX.out
            have d0 := BX.out.cell 0
            have d1 := BX.out.cell 1
            have d2 := BX.out.cell 2
            have d3 := BX.out.cell 3
            have d4 := BX.out.cell 4
            have x0 := BV.out.cell 0
            have x1 := BV.out.cell 1
            have x2 := BV.out.cell 2
            have x3 := BV.out.cell 3
            have x4 := BV.out.cell 4
            go_wp2_with (refine wpList_eqS (by kernel_rfl) (.tmp 26) (.tmp 27) rfl U (0, 0, 0) rfl rfl ?_; rw [HG.out])
            refine (sinsert_c _ n _ _ true r true _ hpl.out (by omega) (bt_small _ _ HD.out)).mono ?_
            rintro e w8 ⟨v8, rfl, hl, h8⟩
            clear d0 d1 d2 d3 d4 x0 x1 x2 x3 x4 hpl SX
            try clear u0 u1 u2 BU
            replace BX := hide (BX.out.later hl)
            replace L := hide (L.out.later hl)
            replace BV := hide (BV.out.later hl)
            have SY := hide h8
            obtain ⟨ay, cy, bY, ky, dy, rfl, _, _, _⟩ := h8.shape
            clear hl h8
            go_wp2_with (refine wpList_newT rfl rfl rfl 8 rfl (by simp) (.tmp 54) (by simp) rfl ay bY n cy ky dy true r true rfl ?_)
            intro gY w9 hB hl hg
            replace BX := hide (BX.out.later hl)
            replace L := hide (L.out.later hl)
            replace BV := hide (BV.out.later hl)
            replace SY := hide (SY.out.later hl)
            have BY := hide hB
            clear hl hB hg
            go_wp2_with fail
            have hwc := (Later.refl w9).drew
            have hc := fun r => (hwc.trans (later_rg w9.drew r))
            have x0 := fun r => (BX.out.later (hc r)).cell 0
            have x1 := fun r => (BX.out.later (hc r)).cell 1
            have x2 := fun r => (BV.out.later (hc r)).cell 2
            have y0 := fun r => (BY.out.later (hc r)).cell 0
            have y1 := fun r => (BY.out.later (hc r)).cell 1
            have y2 := fun r => (BY.out.later (hc r)).cell 2
            refine wp_region_sched ((List.range 12).map (fun i => (i, false)) ++ [(13, false), (14, false), (12, true), (15, true)] ++ (List.range 10).map (fun i => (i + 16, false))) (by kernel_rfl) (by kernel_rfl) (by kernel_rfl) (by kernel_rfl) ?_
            simp only [List.range, List.range.loop, List.map, List.cons_append, List.nil_append]
            iterate 14 (refine wpS_mild rfl (fun K hK => ?_); go_simp; refine hK _ ?_; clear hK K)
            clear x0 x1 x2 y0 y1 y2 hc
            refine wpS_callL rfl (by kernel_rfl) 36 (Plain.of (by kernel_rfl)) [.tmp 67] _ rfl [.agg #[.slice ay n cy, .slice bY ky dy]] rfl (fun v w' => Rw 64 w' v n (bv (app F D))) (fun wx hx => ?c1) ?_
            case c1 =>
              have hq := rall_b wx (Slt.med (SY.out.later (hwc.trans hx)))
              rw [(all_bt true true HR.out).1, (all_bt (F := F) true true HR.out).2] at hq
              exact hq
            intro v1 d1 hd1 R1
            refine wpS_callL rfl (by kernel_rfl) 36 (Plain.of (by kernel_rfl)) [.tmp 70] _ rfl [.agg #[.slice ab n cb, .slice aD k cD]] rfl (fun v w' => Rw 64 w' v n (bv (app F D))) (fun wx hx => ?c1) ?_
            case c1 =>
              have hq := rall_b wx (HM.out.later (L.out.trans (hwc.trans (hd1.trans hx))))
              rw [show allN n D = n from by simp [allN, HR.out], show allF n F D = app F D from by simp [allF, HR.out]] at hq
              exact hq
            intro v2 d2 hd2 R2
            refine wpS_call rfl (by kernel_rfl) 39 (Plain.of (by kernel_rfl)) [.tmp 68, .tmp 71] _ rfl [v1, v2] rfl (.bool true) (fun wx hx => ?c2) ?_
            case c2 =>
              refine (rsame_c _ (R1.later (hd2.trans hx)) (R2.later hx)).mono fun e w' ⟨he, hl⟩ => ⟨?_, hl⟩
              rw [he]; simp
            have hd := hwc.trans (hd1.trans hd2)
            have hc' := fun r => hd.trans (later_rg d2 r)
            have x3 := fun r => (BX.out.later (hc' r)).cell 3
            have y3 := fun r => (BY.out.later (hc' r)).cell 3
            iterate 9 (refine wpS_mild rfl (fun K hK => ?_); go_simp; refine hK _ ?_; clear hK K)
            clear x3 y3 hc'
            refine wpS_nil (fun wx hx => ?_)
            have LX := hide (L.out.trans (hd.trans hx))
            clear hx
            go_wp2
            go_ret
            exact ⟨by first | rfl | simp, LX.out⟩
      | true =>
        have d0 := BX.out.cell 0
        have d1 := BX.out.cell 1
        have d2 := BX.out.cell 2
        have d3 := BX.out.cell 3
        have d4 := BX.out.cell 4
        have u0 := BU.out.cell 0
        have u1 := BU.out.cell 1
        have u2 := BU.out.cell 2
        go_wp2_with (refine wpList_eqS (by kernel_rfl) (.tmp 26) (.tmp 27) rfl U (0, 0, 0) rfl rfl ?_; rw [HG.out])
        clear u0 u1 u2 BU HG
        clear SX
        refine (sbutton_c _ n F D p r l w5 (S.out.later L.out) (by omega) HD.out).mono ?_
        rintro e w6 ⟨v6, rfl, hl, h6⟩
        clear d0 d1 d2 d3 d4
        replace BX := hide (BX.out.later hl)
        replace L := hide (L.out.later hl)
        replace BV := hide (BV.out.later hl)
        have SX := hide h6
        obtain ⟨ax, cx, bx, kx, dx, rfl, _, _, _⟩ := h6.shape
        clear hl h6
        go_wp2_with (refine wpList_storeT rfl 27 (.tmp 5) (.tmp 33) rfl gV 0 rfl (tc (.slice ax n cx) (.slice bx kx dx) (p && l) r l) rfl Try.info_slot (tc_one _ _ _ _ _ _ _ _ _) _ _ BV.out (by simp) ?_)
        intro w7 hw7
        have BV5 := hide (BV.out.all (tc (.slice ax n cx) (.slice bx kx dx) (p && l) r l) rfl)
        have BX5 := hide (BX.out.kept (heap_setCells_other w6 gV w.heap.size hgV.1 (tc (.slice ax n cx) (.slice bx kx dx) (p && l) r l) 0))
        have L5 := hide (L.out.setCells (g := gV) hgV.2 (tc (.slice ax n cx) (.slice bx kx dx) (p && l) r l) 0)
        have S5 := hide (SX.out.setBox BV.out (tc_noints _ _ _ _ _ _ _ _ _) (tc (.slice ax n cx) (.slice bx kx dx) (p && l) r l) 0)
        rw [← hw7.out] at BV5 BX5 L5 S5
        clear BV BX L SX hw7
        have BV := BV5
        have BX := BX5
        have L := L5
        have SX := S5
        clear BV5 BX5 L5 S5
        cases p with
        | false =>
          cases l with
          | false =>
            have hpl : Hid (Slt w7 (.agg #[.slice ax n cx, .slice bx kx dx, .bool false, .bool r, .bool false]) n (btF false false n F D) (btD false false n D) false r false) := SX.out
            have d0 := BX.out.cell 0
            have d1 := BX.out.cell 1
            have d2 := BX.out.cell 2
            have d3 := BX.out.cell 3
            have d4 := BX.out.cell 4
            have x0 := BV.out.cell 0
            have x1 := BV.out.cell 1
            have x2 := BV.out.cell 2
            have x3 := BV.out.cell 3
            have x4 := BV.out.cell 4
            go_wp2_with fail
            refine (sinsert_c _ n _ _ false r false _ hpl.out (by omega) (bt_small _ _ HD.out)).mono ?_
            rintro e w8 ⟨v8, rfl, hl, h8⟩
            clear d0 d1 d2 d3 d4 x0 x1 x2 x3 x4 hpl SX
            try clear u0 u1 u2 BU
            replace BX := hide (BX.out.later hl)
            replace L := hide (L.out.later hl)
            replace BV := hide (BV.out.later hl)
            have SY := hide h8
            obtain ⟨ay, cy, bY, ky, dy, rfl, _, _, _⟩ := h8.shape
            clear hl h8
            go_wp2_with (refine wpList_newT rfl rfl rfl 8 rfl (by simp) (.tmp 54) (by simp) rfl ay bY n cy ky dy true r false rfl ?_)
            intro gY w9 hB hl hg
            replace BX := hide (BX.out.later hl)
            replace L := hide (L.out.later hl)
            replace BV := hide (BV.out.later hl)
            replace SY := hide (SY.out.later hl)
            have BY := hide hB
            clear hl hB hg
            go_wp2_with fail
            have hwc := (Later.refl w9).drew
            have hc := fun r => (hwc.trans (later_rg w9.drew r))
            have x0 := fun r => (BX.out.later (hc r)).cell 0
            have x1 := fun r => (BX.out.later (hc r)).cell 1
            have x2 := fun r => (BV.out.later (hc r)).cell 2
            have y0 := fun r => (BY.out.later (hc r)).cell 0
            have y1 := fun r => (BY.out.later (hc r)).cell 1
            have y2 := fun r => (BY.out.later (hc r)).cell 2
            refine wp_region_sched ((List.range 12).map (fun i => (i, false)) ++ [(13, false), (14, false), (12, true), (15, true)] ++ (List.range 10).map (fun i => (i + 16, false))) (by kernel_rfl) (by kernel_rfl) (by kernel_rfl) (by kernel_rfl) ?_
            simp only [List.range, List.range.loop, List.map, List.cons_append, List.nil_append]
            iterate 14 (refine wpS_mild rfl (fun K hK => ?_); go_simp; refine hK _ ?_; clear hK K)
            clear x0 x1 x2 y0 y1 y2 hc
            refine wpS_callL rfl (by kernel_rfl) 36 (Plain.of (by kernel_rfl)) [.tmp 67] _ rfl [.agg #[.slice ay n cy, .slice bY ky dy]] rfl (fun v w' => Rw 64 w' v n (bv (app F D))) (fun wx hx => ?c1) ?_
            case c1 =>
              have hq := rall_b wx (Slt.med (SY.out.later (hwc.trans hx)))
              rw [(all_bt false false HR.out).1, (all_bt (F := F) false false HR.out).2] at hq
              exact hq
            intro v1 d1 hd1 R1
            refine wpS_callL rfl (by kernel_rfl) 36 (Plain.of (by kernel_rfl)) [.tmp 70] _ rfl [.agg #[.slice ab n cb, .slice aD k cD]] rfl (fun v w' => Rw 64 w' v n (bv (app F D))) (fun wx hx => ?c1) ?_
            case c1 =>
              have hq := rall_b wx (HM.out.later (L.out.trans (hwc.trans (hd1.trans hx))))
              rw [show allN n D = n from by simp [allN, HR.out], show allF n F D = app F D from by simp [allF, HR.out]] at hq
              exact hq
            intro v2 d2 hd2 R2
            refine wpS_call rfl (by kernel_rfl) 39 (Plain.of (by kernel_rfl)) [.tmp 68, .tmp 71] _ rfl [v1, v2] rfl (.bool true) (fun wx hx => ?c2) ?_
            case c2 =>
              refine (rsame_c _ (R1.later (hd2.trans hx)) (R2.later hx)).mono fun e w' ⟨he, hl⟩ => ⟨?_, hl⟩
              rw [he]; simp
            have hd := hwc.trans (hd1.trans hd2)
            have hc' := fun r => hd.trans (later_rg d2 r)
            have x3 := fun r => (BX.out.later (hc' r)).cell 3
            have y3 := fun r => (BY.out.later (hc' r)).cell 3
            iterate 9 (refine wpS_mild rfl (fun K hK => ?_); go_simp; refine hK _ ?_; clear hK K)
            clear x3 y3 hc'
            refine wpS_nil (fun wx hx => ?_)
            have LX := hide (L.out.trans (hd.trans hx))
            clear hx
            go_wp2
            go_ret
            exact ⟨by first | rfl | simp, LX.out⟩
          | true =>
            have hpl : Hid (Slt w7 (.agg #[.slice ax n cx, .slice bx kx dx, .bool false, .bool r, .bool true]) n (btF false true n F D) (btD false true n D) false r true) := SX.out
            have d0 := BX.out.cell 0
            have d1 := BX.out.cell 1
            have d2 := BX.out.cell 2
            have d3 := BX.out.cell 3
            have d4 := BX.out.cell 4
            have x0 := BV.out.cell 0
            have x1 := BV.out.cell 1
            have x2 := BV.out.cell 2
            have x3 := BV.out.cell 3
            have x4 := BV.out.cell 4
            go_wp2_with fail
            refine (sinsert_c _ n _ _ false r true _ hpl.out (by omega) (bt_small _ _ HD.out)).mono ?_
            rintro e w8 ⟨v8, rfl, hl, h8⟩
            clear d0 d1 d2 d3 d4 x0 x1 x2 x3 x4 hpl SX
            try clear u0 u1 u2 BU
            replace BX := hide (BX.out.later hl)
            replace L := hide (L.out.later hl)
            replace BV := hide (BV.out.later hl)
            have SY := hide h8
            obtain ⟨ay, cy, bY, ky, dy, rfl, _, _, _⟩ := h8.shape
            clear hl h8
            go_wp2_with (refine wpList_newT rfl rfl rfl 8 rfl (by simp) (.tmp 54) (by simp) rfl ay bY n cy ky dy true r true rfl ?_)
            intro gY w9 hB hl hg
            replace BX := hide (BX.out.later hl)
            replace L := hide (L.out.later hl)
            replace BV := hide (BV.out.later hl)
            replace SY := hide (SY.out.later hl)
            have BY := hide hB
            clear hl hB hg
            go_wp2_with fail
            have hwc := (Later.refl w9).drew
            have hc := fun r => (hwc.trans (later_rg w9.drew r))
            have x0 := fun r => (BX.out.later (hc r)).cell 0
            have x1 := fun r => (BX.out.later (hc r)).cell 1
            have x2 := fun r => (BV.out.later (hc r)).cell 2
            have y0 := fun r => (BY.out.later (hc r)).cell 0
            have y1 := fun r => (BY.out.later (hc r)).cell 1
            have y2 := fun r => (BY.out.later (hc r)).cell 2
            refine wp_region_sched ((List.range 12).map (fun i => (i, false)) ++ [(13, false), (14, false), (12, true), (15, true)] ++ (List.range 10).map (fun i => (i + 16, false))) (by kernel_rfl) (by kernel_rfl) (by kernel_rfl) (by kernel_rfl) ?_
            simp only [List.range, List.range.loop, List.map, List.cons_append, List.nil_append]
            iterate 14 (refine wpS_mild rfl (fun K hK => ?_); go_simp; refine hK _ ?_; clear hK K)
            clear x0 x1 x2 y0 y1 y2 hc
            refine wpS_callL rfl (by kernel_rfl) 36 (Plain.of (by kernel_rfl)) [.tmp 67] _ rfl [.agg #[.slice ay n cy, .slice bY ky dy]] rfl (fun v w' => Rw 64 w' v n (bv (app F D))) (fun wx hx => ?c1) ?_
            case c1 =>
              have hq := rall_b wx (Slt.med (SY.out.later (hwc.trans hx)))
              rw [(all_bt false true HR.out).1, (all_bt (F := F) false true HR.out).2] at hq
              exact hq
            intro v1 d1 hd1 R1
            refine wpS_callL rfl (by kernel_rfl) 36 (Plain.of (by kernel_rfl)) [.tmp 70] _ rfl [.agg #[.slice ab n cb, .slice aD k cD]] rfl (fun v w' => Rw 64 w' v n (bv (app F D))) (fun wx hx => ?c1) ?_
            case c1 =>
              have hq := rall_b wx (HM.out.later (L.out.trans (hwc.trans (hd1.trans hx))))
              rw [show allN n D = n from by simp [allN, HR.out], show allF n F D = app F D from by simp [allF, HR.out]] at hq
              exact hq
            intro v2 d2 hd2 R2
            refine wpS_call rfl (by kernel_rfl) 39 (Plain.of (by kernel_rfl)) [.tmp 68, .tmp 71] _ rfl [v1, v2] rfl (.bool true) (fun wx hx => ?c2) ?_
            case c2 =>
              refine (rsame_c _ (R1.later (hd2.trans hx)) (R2.later hx)).mono fun e w' ⟨he, hl⟩ => ⟨?_, hl⟩
              rw [he]; simp
            have hd := hwc.trans (hd1.trans hd2)
            have hc' := fun r => hd.trans (later_rg d2 r)
            have x3 := fun r => (BX.out.later (hc' r)).cell 3
            have y3 := fun r => (BY.out.later (hc' r)).cell 3
            iterate 9 (refine wpS_mild rfl (fun K hK => ?_); go_simp; refine hK _ ?_; clear hK K)
            clear x3 y3 hc'
            refine wpS_nil (fun wx hx => ?_)
            have LX := hide (L.out.trans (hd.trans hx))
            clear hx
            go_wp2
            go_ret
            exact ⟨by first | rfl | simp, LX.out⟩
        | true =>
          cases l with
          | false =>
            have hpl : Hid (Slt w7 (.agg #[.slice ax n cx, .slice bx kx dx, .bool false, .bool r, .bool false]) n (btF true false n F D) (btD true false n D) false r false) := SX.out
            have d0 := BX.out.cell 0
            have d1 := BX.out.cell 1
            have d2 := BX.out.cell 2
            have d3 := BX.out.cell 3
            have d4 := BX.out.cell 4
            have x0 := BV.out.cell 0
            have x1 := BV.out.cell 1
            have x2 := BV.out.cell 2
            have x3 := BV.out.cell 3
            have x4 := BV.out.cell 4
            go_wp2_with fail
            refine (sinsert_c _ n _ _ false r false _ hpl.out (by omega) (bt_small _ _ HD.out)).mono ?_
            rintro e w8 ⟨v8, rfl, hl, h8⟩
            clear d0 d1 d2 d3 d4 x0 x1 x2 x3 x4 hpl SX
            try clear u0 u1 u2 BU
            replace BX := hide (BX.out.later hl)
            replace L := hide (L.out.later hl)
            replace BV := hide (BV.out.later hl)
            have SY := hide h8
            obtain ⟨ay, cy, bY, ky, dy, rfl, _, _, _⟩ := h8.shape
            clear hl h8
            go_wp2_with (refine wpList_newT rfl rfl rfl 8 rfl (by simp) (.tmp 54) (by simp) rfl ay bY n cy ky dy true r false rfl ?_)
            intro gY w9 hB hl hg
            replace BX := hide (BX.out.later hl)
            replace L := hide (L.out.later hl)
            replace BV := hide (BV.out.later hl)
            replace SY := hide (SY.out.later hl)
            have BY := hide hB
            clear hl hB hg
            go_wp2_with fail
            have hwc := (Later.refl w9).drew
            have hc := fun r => (hwc.trans (later_rg w9.drew r))
            have x0 := fun r => (BX.out.later (hc r)).cell 0
            have x1 := fun r => (BX.out.later (hc r)).cell 1
            have x2 := fun r => (BV.out.later (hc r)).cell 2
            have y0 := fun r => (BY.out.later (hc r)).cell 0
            have y1 := fun r => (BY.out.later (hc r)).cell 1
            have y2 := fun r => (BY.out.later (hc r)).cell 2
            refine wp_region_sched ((List.range 12).map (fun i => (i, false)) ++ [(13, false), (14, false), (12, true), (15, true)] ++ (List.range 10).map (fun i => (i + 16, false))) (by kernel_rfl) (by kernel_rfl) (by kernel_rfl) (by kernel_rfl) ?_
            simp only [List.range, List.range.loop, List.map, List.cons_append, List.nil_append]
            iterate 14 (refine wpS_mild rfl (fun K hK => ?_); go_simp; refine hK _ ?_; clear hK K)
            clear x0 x1 x2 y0 y1 y2 hc
            refine wpS_callL rfl (by kernel_rfl) 36 (Plain.of (by kernel_rfl)) [.tmp 67] _ rfl [.agg #[.slice ay n cy, .slice bY ky dy]] rfl (fun v w' => Rw 64 w' v n (bv (app F D))) (fun wx hx => ?c1) ?_
            case c1 =>
              have hq := rall_b wx (Slt.med (SY.out.later (hwc.trans hx)))
              rw [(all_bt true false HR.out).1, (all_bt (F := F) true false HR.out).2] at hq
              exact hq
            intro v1 d1 hd1 R1
            refine wpS_callL rfl (by kernel_rfl) 36 (Plain.of (by kernel_rfl)) [.tmp 70] _ rfl [.agg #[.slice ab n cb, .slice aD k cD]] rfl (fun v w' => Rw 64 w' v n (bv (app F D))) (fun wx hx => ?c1) ?_
            case c1 =>
              have hq := rall_b wx (HM.out.later (L.out.trans (hwc.trans (hd1.trans hx))))
              rw [show allN n D = n from by simp [allN, HR.out], show allF n F D = app F D from by simp [allF, HR.out]] at hq
              exact hq
            intro v2 d2 hd2 R2
            refine wpS_call rfl (by kernel_rfl) 39 (Plain.of (by kernel_rfl)) [.tmp 68, .tmp 71] _ rfl [v1, v2] rfl (.bool true) (fun wx hx => ?c2) ?_
            case c2 =>
              refine (rsame_c _ (R1.later (hd2.trans hx)) (R2.later hx)).mono fun e w' ⟨he, hl⟩ => ⟨?_, hl⟩
              rw [he]; simp
            have hd := hwc.trans (hd1.trans hd2)
            have hc' := fun r => hd.trans (later_rg d2 r)
            have x3 := fun r => (BX.out.later (hc' r)).cell 3
            have y3 := fun r => (BY.out.later (hc' r)).cell 3
            iterate 9 (refine wpS_mild rfl (fun K hK => ?_); go_simp; refine hK _ ?_; clear hK K)
            clear x3 y3 hc'
            refine wpS_nil (fun wx hx => ?_)
            have LX := hide (L.out.trans (hd.trans hx))
            clear hx
            go_wp2
            go_ret
            exact ⟨by first | rfl | simp, LX.out⟩
          | true =>
            have hpl : Hid (Slt w7 (.agg #[.slice ax n cx, .slice bx kx dx, .bool true, .bool r, .bool true]) n (btF true true n F D) (btD true true n D) true r true) := SX.out
            have d0 := BX.out.cell 0
            have d1 := BX.out.cell 1
            have d2 := BX.out.cell 2
            have d3 := BX.out.cell 3
            have d4 := BX.out.cell 4
            have x0 := BV.out.cell 0
            have x1 := BV.out.cell 1
            have x2 := BV.out.cell 2
            have x3 := BV.out.cell 3
            have x4 := BV.out.cell 4
            go_wp2_with fail
            refine (sinsert_c _ n _ _ true r true _ hpl.out (by omega) (bt_small _ _ HD.out)).mono ?_
            rintro e w8 ⟨v8, rfl, hl, h8⟩
            clear d0 d1 d2 d3 d4 x0 x1 x2 x3 x4 hpl SX
            try clear u0 u1 u2 BU
            replace BX := hide (BX.out.later hl)
            replace L := hide (L.out.later hl)
            replace BV := hide (BV.out.later hl)
            have SY := hide h8
            obtain ⟨ay, cy, bY, ky, dy, rfl, _, _, _⟩ := h8.shape
            clear hl h8
            go_wp2_with (refine wpList_newT rfl rfl rfl 8 rfl (by simp) (.tmp 54) (by simp) rfl ay bY n cy ky dy true r true rfl ?_)
            intro gY w9 hB hl hg
            replace BX := hide (BX.out.later hl)
            replace L := hide (L.out.later hl)
            replace BV := hide (BV.out.later hl)
            replace SY := hide (SY.out.later hl)
            have BY := hide hB
            clear hl hB hg
            go_wp2_with fail
            have hwc := (Later.refl w9).drew
            have hc := fun r => (hwc.trans (later_rg w9.drew r))
            have x0 := fun r => (BX.out.later (hc r)).cell 0
            have x1 := fun r => (BX.out.later (hc r)).cell 1
            have x2 := fun r => (BV.out.later (hc r)).cell 2
            have y0 := fun r => (BY.out.later (hc r)).cell 0
            have y1 := fun r => (BY.out.later (hc r)).cell 1
            have y2 := fun r => (BY.out.later (hc r)).cell 2
            refine wp_region_sched ((List.range 12).map (fun i => (i, false)) ++ [(13, false), (14, false), (12, true), (15, true)] ++ (List.range 10).map (fun i => (i + 16, false))) (by kernel_rfl) (by kernel_rfl) (by kernel_rfl) (by kernel_rfl) ?_
            simp only [List.range, List.range.loop, List.map, List.cons_append, List.nil_append]
            iterate 14 (refine wpS_mild rfl (fun K hK => ?_); go_simp; refine hK _ ?_; clear hK K)
            clear x0 x1 x2 y0 y1 y2 hc
            refine wpS_callL rfl (by kernel_rfl) 36 (Plain.of (by kernel_rfl)) [.tmp 67] _ rfl [.agg #[.slice ay n cy, .slice bY ky dy]] rfl (fun v w' => Rw 64 w' v n (bv (app F D))) (fun wx hx => ?c1) ?_
            case c1 =>
              have hq := rall_b wx (Slt.med (SY.out.later (hwc.trans hx)))
              rw [(all_bt true true HR.out).1, (all_bt (F := F) true true HR.out).2] at hq
              exact hq
            intro v1 d1 hd1 R1
            refine wpS_callL rfl (by kernel_rfl) 36 (Plain.of (by kernel_rfl)) [.tmp 70] _ rfl [.agg #[.slice ab n cb, .slice aD k cD]] rfl (fun v w' => Rw 64 w' v n (bv (app F D))) (fun wx hx => ?c1) ?_
            case c1 =>
              have hq := rall_b wx (HM.out.later (L.out.trans (hwc.trans (hd1.trans hx))))
              rw [show allN n D = n from by simp [allN, HR.out], show allF n F D = app F D from by simp [allF, HR.out]] at hq
              exact hq
            intro v2 d2 hd2 R2
            refine wpS_call rfl (by kernel_rfl) 39 (Plain.of (by kernel_rfl)) [.tmp 68, .tmp 71] _ rfl [v1, v2] rfl (.bool true) (fun wx hx => ?c2) ?_
            case c2 =>
              refine (rsame_c _ (R1.later (hd2.trans hx)) (R2.later hx)).mono fun e w' ⟨he, hl⟩ => ⟨?_, hl⟩
              rw [he]; simp
            have hd := hwc.trans (hd1.trans hd2)
            have hc' := fun r => hd.trans (later_rg d2 r)
            have x3 := fun r => (BX.out.later (hc' r)).cell 3
            have y3 := fun r => (BY.out.later (hc' r)).cell 3
            iterate 9 (refine wpS_mild rfl (fun K hK => ?_); go_simp; refine hK _ ?_; clear hK K)
            clear x3 y3 hc'
            refine wpS_nil (fun wx hx => ?_)
            have LX := hide (L.out.trans (hd.trans hx))
            clear hx
            go_wp2
            go_ret
            exact ⟨by first | rfl | simp, LX.out⟩
end Go.Proofs.Ytkbpecbpfajkfaa
