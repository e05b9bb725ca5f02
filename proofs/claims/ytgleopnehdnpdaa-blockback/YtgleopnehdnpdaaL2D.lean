import Derived.Test.YtgleopnehdnpdaaL2C
import Derived.Deep.OwnRows
namespace Go.Proofs.Ytgleopnehdnpdaa
open Go.ChangeShapes Go.WideShapes Go.ChangeAt Go.RowKit
set_option linter.unusedVariables false
set_option linter.unusedSimpArgs false

theorem RArr.pair8 {v : Value} (h : RArr .u8 2 v) : ∃ f n : UInt8, v = .agg #[.int .u8 (f.toNat : Int), .int .u8 (n.toNat : Int)] := by
  obtain ⟨zs, hl, rfl, hw⟩ := h
  match zs, hl with
  | [f, n], _ =>
    have key : ∀ z : Int, (Lit.int .u8 z).wf = true → ∃ b : UInt8, z = (b.toNat : Int) := fun z hz => by
      have hx := bounds_u8 hz
      obtain ⟨y, rfl⟩ := Int.eq_ofNat_of_zero_le hx.1
      exact ⟨UInt8.ofNat y, by rw [UInt8.toNat_ofNat']; congr 1; omega⟩
    obtain ⟨b, rfl⟩ := key f (hw f (by simp))
    obtain ⟨c, rfl⟩ := key n (hw n (by simp))
    exact ⟨b, c, rfl⟩

/-- the first k of 64 bytes c, the others 0 -/
def fillTo (c : UInt8) (k : Nat) : List UInt8 := List.replicate k c ++ List.replicate (64 - k) 0
theorem fillTo_length (c : UInt8) (k : Nat) (h : k ≤ 64) : (fillTo c k).length = 64 := by simp [fillTo]; omega
theorem fillTo_set (c : UInt8) (k : Nat) (h : k < 64) : fillTo c (k + 1) = (fillTo c k).set k c := by
  unfold fillTo
  obtain ⟨m, hm⟩ : ∃ m, 64 - k = m + 1 := ⟨63 - k, by omega⟩
  rw [List.set_append_right _ _ (by simp), hm, show 64 - (k + 1) = m from by omega, List.replicate_succ', List.replicate_succ]
  simp
theorem fillTo_all (c : UInt8) : fillTo c 64 = List.replicate 64 c := by simp [fillTo]
def zC (c : UInt8) : Array Value := (bv (fillTo c 0)).toArray
theorem made_zC (c : UInt8) : madeCells #[Value.int .u8 0] 64 = zC c := by
  apply Array.toList_inj.1
  rw [show (#[Value.int .u8 0] : Array Value) = Array.replicate 1 (.int .u8 0) from rfl, madeCells_rep _ 1 64 (by decide)]
  simp [zC, fillTo, bv]
theorem run_make64 (c : UInt8) (w : World) : (Instr.makeSlice 25 (.int .i64 64) (.int .i64 64)).run Try.prog w = .ok (.slice (some ⟨w.heap.size, 0, none⟩) 64 64) (w.alloc (.cells (zC c) 5)) := by
  have := run_make_row' (P := Try.prog) 25 5 (.int .u8 0) 1 Try.underlying25 Try.info_u8 rfl .i64 .i64 64 (by decide) (by decide) w
  rwa [made_zC c] at this
theorem Box.bs {w : World} {g : Nat} {l : List UInt8} {t : TypeId} (h : Box w g t (bv l)) (hl : l.length = 64) : Bs w (.slice (some ⟨g, 0, none⟩) 64 64) l := by
  refine ⟨by rw [hl]; decide, some ⟨g, 0, none⟩, 64, by rw [hl], by omega, .inr ⟨g, 0, rfl, fun j hj => ?_⟩⟩
  rw [Nat.zero_add, h.cell j, bv_get_lt l j hj]

theorem fillTo_zero (c d : UInt8) : fillTo c 0 = fillTo d 0 := by simp [fillTo]
theorem two_boxes (w : World) (c d : UInt8) (t : TypeId) : Later w ((w.alloc (.cells (zC c) t)).alloc (.cells (zC c) t)).drew ∧
    Box ((w.alloc (.cells (zC c) t)).alloc (.cells (zC c) t)).drew w.heap.size t (bv (fillTo d 0)) ∧ Box ((w.alloc (.cells (zC c) t)).alloc (.cells (zC c) t)).drew (w.heap.size + 1) t (bv (fillTo d 0)) := by
  have h1 := (Box.new w t (zC c)).alloc (.cells (zC c) t)
  have h2 := Box.new' (w.alloc (.cells (zC c) t)) t (zC c) _ rfl (w.heap.size + 1) (by simp)
  have e : (zC c).toList = bv (fillTo d 0) := by rw [fillTo_zero d c]; simp [zC]
  rw [e] at h1 h2
  exact ⟨(((Later.refl w).alloc _).alloc _).drew, h1, h2⟩

theorem over_comm (F A B : List UInt8) (i j : Nat) (hi : i + A.length ≤ F.length) (hj : j + B.length ≤ F.length) (h : i + A.length ≤ j ∨ j + B.length ≤ i) : over (over F i A) j B = over (over F j B) i A := by
  apply List.ext_getElem?
  intro k
  rw [over_get _ j B (by rw [over_length _ _ _ hi]; exact hj), over_get _ i A hi, over_get _ i A (by rw [over_length _ _ _ hj]; exact hi), over_get _ j B hj]
  by_cases c1 : j ≤ k ∧ k < j + B.length
  · rw [if_pos c1, if_neg (by omega), if_pos c1]
  · rw [if_neg c1, if_neg c1]
theorem bwrite_one {v vb : Value} {len : Nat} {F : List UInt8} (x : Nat) (w : World) (A : List UInt8) (h : Rw 64 w v len (bv F)) (hb : Bs w vb A) (hA : A.length = 64) (hx : x < len) (hl : len ≤ 64) :
    Calls Try.prog 14 #[v, .int .u64 x, vb] w fun e w' => ∃ v', e = .returned (.tuple #[v', .int .i64 0]) ∧ Later w w' ∧ Rw 64 w' v' len (bv (over F (x * 64) A)) := by
  have := bwrite_c x w h hb (by omega) (by omega)
  have hw : writeE len x A.length = 0 := by
    unfold writeE
    rw [if_neg (by omega), if_neg (by omega), if_pos (by simp [withinB]; omega)]
  unfold writeL writeN at this
  rwa [hw, if_pos rfl, if_pos rfl] at this
theorem rep64_length (c : UInt8) : (List.replicate 64 c).length = 64 := List.length_replicate

theorem Bs.of_range {w : World} {b off n : Nat} {l : List UInt8} (h : w.rangeAt b off (bv l)) (hl : l.length = n) (hn : n ≤ 1000000) : Bs w (.slice (some ⟨b, off, none⟩) n n) l :=
  ⟨by rw [hl]; unfold maxLen; omega, some ⟨b, off, none⟩, n, by rw [hl], by omega, .inr ⟨b, off, rfl, fun j hj => h j _ (bv_get_lt l j hj)⟩⟩

set_option maxHeartbeats 2000000 in
theorem blockApart_walk (halive : ∀ w : World, Calls Try.prog 8 #[] w fun e w' => e = .returned (.bool true) ∧ Later w w') (v0 v1 v2 : Value) (w : World) (h0 : RBlocks w v0) (h1 : RArr .u8 2 v1) (h2 : RArr .u8 2 v2) :
    Calls Try.prog 7 #[v0, v1, v2] w fun e w' => e = .returned (.bool true) ∧ Below w.heap.size w w' := by
  obtain ⟨len, F, hr⟩ := h0
  have Hr := hide hr
  have hsm := hr.small
  obtain ⟨ad, cap, rfl⟩ := hr.shape
  have HFl : Hid (F.length = len * 64) := by have := hr.1; rwa [bv_length] at this
  have Halive := hide halive
  clear hr halive
  obtain ⟨p, q, rfl⟩ := h1.pair8
  obtain ⟨c, d, rfl⟩ := h2.pair8
  clear h1 h2
  obtain ⟨pn, hpn⟩ : ∃ n : Nat, p.toNat = n := ⟨_, rfl⟩
  obtain ⟨qn, hqn⟩ : ∃ n : Nat, q.toNat = n := ⟨_, rfl⟩
  have hp : pn < 256 := by rw [← hpn]; exact p.toNat_lt
  have hq : qn < 256 := by rw [← hqn]; exact q.toNat_lt
  rw [hpn, hqn]
  clear hpn hqn
  go_enter Try.func7, Try.ntmps7
  go_wp2_with fail
  have BP0 := hide ((Box.new w 43 #[.int .u8 (pn : Int), .int .u8 (qn : Int)]).alloc (.cells #[.int .u8 (c.toNat : Int), .int .u8 (d.toNat : Int)] 43))
  have BC0 := hide (Box.new' (w.alloc (.cells #[.int .u8 (pn : Int), .int .u8 (qn : Int)] 43)) 43 #[.int .u8 (c.toNat : Int), .int .u8 (d.toNat : Int)] _ rfl (w.heap.size + 1) (by simp))
  have L0 := hide (((Later.refl w).alloc (.cells #[.int .u8 (pn : Int), .int .u8 (qn : Int)] 43)).alloc (.cells #[.int .u8 (c.toNat : Int), .int .u8 (d.toNat : Int)] 43))
  refine (Halive.out _).mono ?_
  rintro e w1 ⟨rfl, hl1⟩
  have L1 := hide (L0.out.trans hl1)
  have BP := hide (BP0.out.later hl1)
  have BC := hide (BC0.out.later hl1)
  have hp0 := BP.out.cell 0
  have hp1 := BP.out.cell 1
  clear hl1 BP0 BC0 L0
  by_cases h0 : len = 0
  · subst h0
    go_wp2
    go_ret
    exact ⟨rfl, L1.out⟩
  by_cases h64 : 64 < len
  · go_wp2
    go_ret
    exact ⟨rfl, L1.out⟩
  have hb0 : ((len : Int) == 0) = false := by rw [beq_eq_false_iff_ne]; omega
  have hp0' := fun r => (Box.later BP.out ((Later.refl w1).drew.trans (later_rg w1.drew r))).cell 0
  have hp1' := fun r => (Box.later BP.out ((Later.refl w1).drew.trans (later_rg w1.drew r))).cell 1
  clear hp0 hp1
  go_wp2_with fail
  refine wp_region_sched ((List.range 14).map fun i => (i, false)) (by kernel_rfl) (by kernel_rfl) (by kernel_rfl) (by kernel_rfl) ?_
  simp only [List.range, List.range.loop, List.map]
  iterate 14 (refine wpS_mild rfl (fun K hK => ?_); go_simp; refine hK _ ?_; clear hK K)
  refine wpS_nil (fun w2 hwx => ?_)
  have L2 := hide (L1.out.drew.trans hwx)
  have BC2 := hide (BC.out.later ((Later.refl w1).drew.trans hwx))
  clear hp0' hp1' L1 BP BC hwx
  have hx : (IntKind.i64.wrap (pn : Int)).tmod (len : Int) = ((pn % len : Nat) : Int) := by
    rw [show IntKind.i64.wrap (pn : Int) = pn from by rw [IntKind.wrap_i64]; omega]; rfl
  have hy : (IntKind.i64.wrap (qn : Int)).tmod (len : Int) = ((qn % len : Nat) : Int) := by
    rw [show IntKind.i64.wrap (qn : Int) = qn from by rw [IntKind.wrap_i64]; omega]; rfl
  rw [hx, hy]
  clear hx hy
  have hxl : pn % len < len := Nat.mod_lt _ (by omega)
  have hyl : qn % len < len := Nat.mod_lt _ (by omega)
  generalize pn % len = x at *
  generalize qn % len = y at *
  by_cases hxy : x = y
  · subst hxy
    have hbx : ((x : Int) == (x : Int)) = true := by simp
    go_wp2
    go_ret
    exact ⟨rfl, L2.out⟩
  have hbx : ((x : Int) == (y : Int)) = false := by rw [beq_eq_false_iff_ne]; omega
  go_wp2_with fail
  refine wp_mono_frame (fun a a' w' => ∃ ga gb : Nat, Hid (ga ≠ gb ∧ w.heap.size + 1 < ga ∧ w.heap.size + 1 < gb ∧ Later w2 w' ∧ Box w' ga 5 (bv (fillTo c 0)) ∧ Box w' gb 5 (bv (fillTo d 0))) ∧ a' = (((a.put (some 43) (.slice (some ⟨ga, 0, none⟩) 64 64)).put (some 44) (.slice (some ⟨gb, 0, none⟩) 64 64)).put (some 9) (.slice (some ⟨ga, 0, none⟩) 64 64)).put (some 10) (.slice (some ⟨gb, 0, none⟩) 64 64)) ?_ ?_
  · have hmk := fun w => run_make64 c w
    have hsz : w.heap.size + 1 < w2.heap.size := BC2.out.lt
    have HB := hide (fun d => two_boxes w2 c d 5)
    go_region
    · exact ⟨rfl, w2.heap.size, w2.heap.size + 1, ⟨by omega, by omega, by omega, (HB.out c).1, (HB.out c).2.1, (HB.out d).2.2⟩, by kernel_rfl⟩
    · exact ⟨rfl, w2.heap.size + 1, w2.heap.size, ⟨by omega, by omega, by omega, (HB.out c).1, (HB.out c).2.2, (HB.out d).2.1⟩, by kernel_rfl⟩
  rintro a' w3 ⟨ga, gb, hab, rfl⟩
  have L3 := hide (L2.out.trans hab.out.2.2.2.1)
  have BC3 := hide (BC2.out.later hab.out.2.2.2.1)
  have hne := hab.out.1
  have hga := hab.out.2.1
  have hgb := hab.out.2.2.1
  have A3 := hide hab.out.2.2.2.2.1
  have B3 := hide hab.out.2.2.2.2.2
  clear hab L2 BC2
  go_wp2_with fail
  go_loopw [11] (fun i wr => ∃ k : Nat, k ≤ 64 ∧ i = .int .i64 k ∧ Hid (Box wr ga 5 (bv (fillTo c k))) ∧ Hid (Box wr gb 5 (bv (fillTo d k))) ∧ Hid (Box wr (w.heap.size + 1) 43 [.int .u8 (c.toNat : Int), .int .u8 (d.toNat : Int)]) ∧ Hid (Later w wr)) (fun i _ => 64 - (intOf i).toNat)
  case atStart => exact ⟨0, Nat.zero_le _, rfl, A3, B3, BC3, L3⟩
  case round =>
    clear A3 B3 BC3 L3
    obtain ⟨k, hk, rfl, hA, hB, hC, hl⟩ := hrel
    by_cases hlt : k < 64
    · have hf0 := hC.out.cell 0
      have hf1 := hC.out.cell 1
      obtain ⟨u, hca⟩ : ∃ u, wr.cell? ⟨ga, k, none⟩ = some u := by
        rw [hA.out.cell k]; exact ⟨_, bv_get_lt _ k (by rw [fillTo_length c k hk]; exact hlt)⟩
      obtain ⟨v, hcb⟩ : ∃ v, wr.cell? ⟨gb, k, none⟩ = some v := by
        rw [hB.out.cell k]; exact ⟨_, bv_get_lt _ k (by rw [fillTo_length d k hk]; exact hlt)⟩
      have hfa := hA.out.frozen k
      have hfb := hB.out.frozen k
      have H2 : Hid (Box ((wr.setCell ⟨ga, k, none⟩ (.int .u8 (c.toNat : Int))).setCell ⟨gb, k, none⟩ (.int .u8 (d.toNat : Int))).drew ga 5 (bv (fillTo c (k + 1))) ∧
          Box ((wr.setCell ⟨ga, k, none⟩ (.int .u8 (c.toNat : Int))).setCell ⟨gb, k, none⟩ (.int .u8 (d.toNat : Int))).drew gb 5 (bv (fillTo d (k + 1))) ∧
          Box ((wr.setCell ⟨ga, k, none⟩ (.int .u8 (c.toNat : Int))).setCell ⟨gb, k, none⟩ (.int .u8 (d.toNat : Int))).drew (w.heap.size + 1) 43 [.int .u8 (c.toNat : Int), .int .u8 (d.toNat : Int)] ∧
          Later w ((wr.setCell ⟨ga, k, none⟩ (.int .u8 (c.toNat : Int))).setCell ⟨gb, k, none⟩ (.int .u8 (d.toNat : Int))).drew) := by
        rw [fillTo_set c k hlt, fillTo_set d k hlt, bv_set, bv_set]
        refine ⟨(hA.out.set k _).other _ _ hne, (hB.out.other _ _ (Ne.symm hne)).set k _, ?_, Later.drew (Later.setCell (Later.setCell hl.out (by simp; omega) _) (by simp; omega) _)⟩
        exact (hC.out.other _ _ (by simp; omega)).other _ _ (by simp; omega)
      clear hA hB hC hl
      go_wp2_with fail
      go_region
      clear hf0 hf1 hca hcb hfa hfb
      generalize ((wr.setCell ⟨ga, k, none⟩ (.int .u8 (c.toNat : Int))).setCell ⟨gb, k, none⟩ (.int .u8 (d.toNat : Int))).drew = wz at *
      go_wp2
      go_roundw
      case rel => exact ⟨k + 1, by omega, by go_num, H2.out.1, H2.out.2.1, H2.out.2.2.1, H2.out.2.2.2⟩
      case measure => simp [intOf]; omega
    · have hk64 : k = 64 := by omega
      rw [hk64, fillTo_all] at hA hB
      obtain ⟨A, hAe⟩ : ∃ A : List UInt8, A = List.replicate 64 c := ⟨_, rfl⟩
      obtain ⟨B, hBe⟩ : ∃ B : List UInt8, B = List.replicate 64 d := ⟨_, rfl⟩
      rw [← hAe] at hA
      rw [← hBe] at hB
      have lA := hide (show A.length = 64 by rw [hAe, rep64_length])
      have lB := hide (show B.length = 64 by rw [hBe, rep64_length])
      have A4 := hide (hA.out.bs lA.out)
      have B4 := hide (hB.out.bs lB.out)
      clear hA hB hC hAe hBe hk64
      go_wp2_with fail
      refine (bwrite_one x _ A (Hr.out.later hl.out) A4.out lA.out hxl (by omega)).mono ?_
      rintro e w5 ⟨v5, rfl, hl5, hb5⟩
      have L5 := hide (hl.out.trans hl5)
      have A5 := hide (A4.out.below hl5 (Nat.le_refl _))
      have B5 := hide (B4.out.below hl5 (Nat.le_refl _))
      have M5 := hide hb5
      clear hl5 hb5 hl A4 B4
      go_wp2_with fail
      refine (bwrite_one y _ B M5.out B5.out lB.out hyl (by omega)).mono ?_
      rintro e w6 ⟨v6, rfl, hl6, hb6⟩
      have L6 := hide (L5.out.trans hl6)
      have A6 := hide (A5.out.below hl6 (Nat.le_refl _))
      have B6 := hide (B5.out.below hl6 (Nat.le_refl _))
      have M6 := hide hb6
      clear hl6 hb6 L5 A5 B5 M5
      go_wp2_with fail
      refine (bwrite_one y _ B (Hr.out.later L6.out) B6.out lB.out hyl (by omega)).mono ?_
      rintro e w7 ⟨v7, rfl, hl7, hb7⟩
      have L7 := hide (L6.out.trans hl7)
      have A7 := hide (A6.out.below hl7 (Nat.le_refl _))
      have B7 := hide (B6.out.below hl7 (Nat.le_refl _))
      have M7 := hide (M6.out.later hl7)
      have N7 := hide hb7
      clear hl7 hb7 L6 A6 B6 M6
      go_wp2_with fail
      refine (bwrite_one x _ A N7.out A7.out lA.out hxl (by omega)).mono ?_
      rintro e w8 ⟨v8, rfl, hl8, hb8⟩
      have L8 := hide (L7.out.trans hl8)
      have A8 := hide (A7.out.below hl8 (Nat.le_refl _))
      have B8 := hide (B7.out.below hl8 (Nat.le_refl _))
      have M8 := hide (M7.out.later hl8)
      have N8 := hide hb8
      clear hl8 hb8 L7 A7 B7 M7 N7
      obtain ⟨ad6, cap6, rfl⟩ := M8.out.shape
      obtain ⟨b6, o6, hb6, r6⟩ := M8.out.lies? (by omega)
      subst hb6
      have hF := HFl.out
      have hA := lA.out
      have hB := lB.out
      have l1 : (over F (x * 64) A).length = F.length := over_length _ _ _ (by omega)
      have eX : seg (over (over F (x * 64) A) (y * 64) B) (x * 64) 64 = A := by
        rw [seg_over_else _ _ _ (by omega) (x * 64) 64 (by omega)]
        have := seg_over F (x * 64) A (by omega)
        rwa [hA] at this
      have eY : seg (over (over F (x * 64) A) (y * 64) B) (y * 64) 64 = B := by
        have := seg_over (over F (x * 64) A) (y * 64) B (by omega)
        rwa [hB] at this
      have rX := range_part r6 (x * 64) 64
      have rY := range_part r6 (y * 64) 64
      rw [bv_part, eX] at rX
      rw [bv_part, eY] at rY
      have hco : over (over F (y * 64) B) (x * 64) A = over (over F (x * 64) A) (y * 64) B := (over_comm F A B (x * 64) (y * 64) (by omega) (by omega) (by omega)).symm
      rw [hco] at N8
      obtain ⟨sA, hsA⟩ : ∃ s : ByteArray, s = ⟨A.toArray⟩ := ⟨_, rfl⟩
      obtain ⟨sB, hsB⟩ : ∃ s : ByteArray, s = ⟨B.toArray⟩ := ⟨_, rfl⟩
      have q1 := fun r => Bs.toStr hsA ((Bs.of_range rX hA (by omega)).below ((Later.refl w8).drew.trans (later_rg w8.drew r)) (Nat.le_refl _))
      have q2 := fun r => Bs.toStr hsB ((Bs.of_range rY hB (by omega)).below ((Later.refl w8).drew.trans (later_rg w8.drew r)) (Nat.le_refl _))
      have q3 := fun r => Bs.toStr hsA (A8.out.below ((Later.refl w8).drew.trans (later_rg w8.drew r)) (Nat.le_refl _))
      have q4 := fun r => Bs.toStr hsB (B8.out.below ((Later.refl w8).drew.trans (later_rg w8.drew r)) (Nat.le_refl _))
      have QS := hide (fun r => rsame_c _ (M8.out.later ((Later.refl w8).drew.trans (later_rg w8.drew r))) (N8.out.later ((Later.refl w8).drew.trans (later_rg w8.drew r))))
      rw [beq_self_bytes] at QS
      clear hsA hsB rX rY hco eX eY l1 hF hA hB r6 A8 B8 M8 N8
      go_wp2_with fail
      refine wp_region_sched ((List.range 24).map fun i => (i, false)) (by kernel_rfl) (by kernel_rfl) (by kernel_rfl) (by kernel_rfl) ?_
      simp only [List.range, List.range.loop, List.map]
      iterate 2 (refine wpS_mild rfl (fun K hK => ?_); go_simp; refine hK _ ?_; clear hK K)
      refine wpS_mild rfl (fun K hK => ?_); go_simp; apply Exists.intro; refine ⟨fun r => QS.out r, hK _ ?_⟩; clear hK K
      iterate 21 (refine wpS_mild rfl (fun K hK => ?_); go_simp; refine hK _ ?_; clear hK K)
      refine wpS_nil (fun wx hwx => ?_)
      have Lx := hide (L8.out.drew.trans hwx)
      clear hwx L8 q1 q2 q3 q4 QS
      go_wp2
      go_ret
      exact ⟨rfl, Lx.out⟩
end Go.Proofs.Ytgleopnehdnpdaa
