import Derived.Test.YtfkojecipbjdpaaL1Bits
namespace Go.Proofs.Ytfkojecipbjdpaa
open Go.ChangeShapes Go.WideShapes Go.ChangeAt Go.RowKit
set_option linter.unusedVariables false
set_option linter.unusedSimpArgs false

theorem putLe_snoc (x k : Nat) : putLe x (k + 1) = putLe x k ++ [UInt8.ofNat (x / 256 ^ k)] := by simp [putLe, List.range_succ]
theorem little_put (x k : Nat) : littleOf (putLe x k) = x % 256 ^ k := by
  induction k with
  | zero => simp [putLe, littleOf, Nat.mod_one]
  | succ k ih =>
    rw [putLe_snoc, littleOf_snoc, ih, putLe_length, UInt8.toNat_ofNat', show (256 : Nat) ^ (k + 1) = 256 ^ k * 256 from Nat.pow_succ _ _, Nat.mod_mul, Nat.mul_comm (256 ^ k)]
theorem seg_mid (a m b : List UInt8) : seg (a ++ m ++ b) a.length m.length = m := by
  unfold seg
  rw [List.append_assoc, List.drop_left, List.take_left]
theorem seg_all (m : List UInt8) : seg m 0 m.length = m := by simp [seg]
theorem holds_mid (a m b : List UInt8) (k : Nat) (hm : m.length = k) (h1 : 1 ≤ k) (h8 : k ≤ 8) : holdsB ((a ++ m ++ b).length : Int) (a.length : Int) (k : Int) = true := by
  simp [holdsB]; omega
theorem back_facts (a b : List UInt8) (x k : Nat) (h1 : 1 ≤ k) (h8 : k ≤ 8) :
    bigAt (a ++ putBeI x k ++ b) a.length k = bitsI x 0 (8 * (k : Int)) ∧ littleAt (a ++ putLeI x k ++ b) a.length k = bitsI x 0 (8 * (k : Int)) ∧
    holdsB ((a ++ putBeI x k ++ b).length : Int) a.length k = true ∧ holdsB ((a ++ putLeI x k ++ b).length : Int) a.length k = true ∧
    bigAt (putLeI x k) 0 k = littleAt (putBeI x k) 0 k ∧ holdsB ((putLeI x k).length : Int) 0 k = true ∧ holdsB ((putBeI x k).length : Int) 0 k = true ∧ (putBeI x k).length = k ∧ (putLeI x k).length = k := by
  have hw : isW (k : Int) = true := by simp [isW]; omega
  have eB : putBeI x k = putBe x k := by simp [putBeI, hw]
  have eL : putLeI x k = putLe x k := by simp [putLeI, hw]
  rw [eB, eL]
  have lB := putBe_length x k
  have lL := putLe_length x k
  have hb1 := holds_mid a (putBe x k) b k lB h1 h8
  have hb2 := holds_mid a (putLe x k) b k lL h1 h8
  have hb3 : holdsB ((putLe x k).length : Int) 0 k = true := by simp [holdsB, lL]; omega
  have hb4 : holdsB ((putBe x k).length : Int) 0 k = true := by simp [holdsB, lB]; omega
  have sB : seg (a ++ putBe x k ++ b) a.length k = putBe x k := by have := seg_mid a (putBe x k) b; rwa [lB] at this
  have sL : seg (a ++ putLe x k ++ b) a.length k = putLe x k := by have := seg_mid a (putLe x k) b; rwa [lL] at this
  have s3 : seg (putLe x k) 0 k = putLe x k := by have := seg_all (putLe x k); rwa [lL] at this
  have s4 : seg (putBe x k) 0 k = putBe x k := by have := seg_all (putBe x k); rwa [lB] at this
  have eb : bitsI x 0 (8 * (k : Int)) = x % 256 ^ k := by
    have : areB 0 (8 * (k : Int)) = true := by simp [areB]; omega
    simp only [bitsI, this, if_true, bitsN]
    rw [show (8 * (k : Int)).toNat = 8 * k from by omega, Nat.pow_mul]
    simp
  refine ⟨?_, ?_, hb1, hb2, ?_, hb3, hb4, lB, lL⟩
  · unfold bigAt; rw [hb1, eb]; simp only [if_true, Int.toNat_natCast]; rw [sB, putBe, bigOf_rev, little_put]
  · unfold littleAt; rw [hb2, eb]; simp only [if_true, Int.toNat_natCast]; rw [sL, little_put]
  · unfold bigAt littleAt; rw [hb3, hb4]; simp only [if_true, Int.toNat_natCast, Int.toNat_zero]; rw [s3, s4, putBe, littleOf_rev]

theorem Bs.later {w b : World} {v : Value} {l : List UInt8} (h : Bs w v l) (hb : Later w b) : Bs b v l := h.below hb (Nat.le_refl _)

set_option maxRecDepth 100000 in
set_option maxHeartbeats 2000000 in
theorem numberBack_walk (v0 v1 v2 : Value) (w : World) (h0 : RBytes w v0) (h1 : RBytes w v1) (h2 : RInt .u64 v2) :
    Calls Try.prog 6 #[v0, v1, v2] w fun e w' => e = .returned (.bool true) ∧ Below w.heap.size w w' := by
  obtain ⟨la, ha⟩ := h0
  obtain ⟨lb, hb⟩ := h1
  obtain ⟨x, rfl, hx⟩ := h2.u64
  clear h2
  have ha' := hide ha
  have hb' := hide hb
  obtain ⟨hma, aa, ca, rfl, _, hd1⟩ := ha
  obtain ⟨hmb, ab, cb, rfl, _, hd2⟩ := hb
  clear hd1 hd2
  unfold maxLen at hma hmb
  go_enter Try.func6, Try.ntmps6
  go_wp2_with fail
  refine (alive_c _ w.heap.size (Nat.le_refl _)).mono ?_
  rintro e w1 ⟨rfl, hb1⟩
  have Hl1 : Hid (Later w w1) := hb1
  clear hb1
  by_cases hA : 1000 < la.length
  · have hAb : decide (1000 < (la.length : Int)) = true := by simp; omega
    go_wp2
    go_ret
    exact ⟨rfl, Hl1.out⟩
  · have hAb : decide (1000 < (la.length : Int)) = false := by simp; omega
    by_cases hB : 1000 < lb.length
    · have hBb : decide (1000 < (lb.length : Int)) = true := by simp; omega
      go_wp2
      go_ret
      exact ⟨rfl, Hl1.out⟩
    · have hBb : decide (1000 < (lb.length : Int)) = false := by simp; omega
      go_wp2_with fail
      go_loopw [7] (fun i wr => ∃ k : Nat, 1 ≤ k ∧ k ≤ 9 ∧ i = .int .i64 k ∧ Hid (Later w wr)) (fun i _ => 9 - (intOf i).toNat)
      case atStart => exact ⟨1, by omega, by omega, rfl, Hl1⟩
      case round =>
        obtain ⟨k, hk1, hk9, rfl, hlr⟩ := hrel
        by_cases hk : k ≤ 8
        · obtain ⟨f1, f2, f3, f4, f5, f6, f7, f8, f9⟩ := back_facts la lb x k hk1 hk
          have F1 := hide f1; have F2 := hide f2; have F3 := hide f3; have F4 := hide f4; have F5 := hide f5; have F6 := hide f6; have F7 := hide f7; have F8 := hide f8; have F9 := hide f9
          clear f1 f2 f3 f4 f5 f6 f7 f8 f9
          go_wp2_with fail
          refine (putBig_c x k _ _ (Nat.le_refl _) hx).mono ?_
          rintro e w2 ⟨v2, rfl, hb2, ho2⟩
          go_wp2_with fail
          refine (putLittle_c x k _ _ (Nat.le_refl _) hx).mono ?_
          rintro e w3 ⟨v3, rfl, hb3, ho3⟩
          have B2 := hide ((Bs.of_owns ho2).1.later hb3)
          have B3 := hide (Bs.of_owns ho3).1
          have L3 := hide (hlr.out.trans (Later.trans hb2 hb3))
          clear hb2 hb3 ho2 ho3 hlr
          obtain ⟨a2, c2, e2⟩ : ∃ a c, v2 = .slice a k c := by obtain ⟨_, a, c, e, _⟩ := B2.out; rw [F8.out] at e; exact ⟨a, c, e⟩
          obtain ⟨a3, c3, e3⟩ : ∃ a c, v3 = .slice a k c := by obtain ⟨_, a, c, e, _⟩ := B3.out; rw [F9.out] at e; exact ⟨a, c, e⟩
          rw [e2, e3]
          rw [e2] at B2
          rw [e3] at B3
          clear e2 e3
          have Ex : Hid ((w3.alloc (.cells #[] 5)).ownsRow w3.heap.size 5 1 (.slice (some ⟨w3.heap.size, 0, none⟩) 0 0) 0 (bv [])) := World.ownsRow_lit w3 #[] 0 (Nat.le_refl _) (by simp [maxLen]) rfl
          have LEx : Hid (Below w3.heap.size w3 (w3.alloc (.cells #[] 5))) := (Below.refl _ _).alloc (Nat.le_refl _) _
          have Ax : Hid (Bs (w3.alloc (.cells #[] 5)) (.slice aa la.length ca) la) := (ha'.out.later L3.out).later LEx.out
          go_wp2_with (at_builtin; refine wpList_append_bs rfl (.tmp 39) (.tmp 40) rfl w3.heap.size _ 0 [] rfl Ex.out _ la rfl Ax.out ?nx ?sx w3 LEx.out ?_)
          case nx => omega
          case sx => simp
          rintro vpx wpx opx bpx gpx
          clear gpx Ex LEx Ax
          have Opx := hide opx
          have Bpx := hide bpx
          have Mx := hide (B2.out.later bpx)
          have szx := bpx.size
          clear opx bpx
          go_wp2_with (at_builtin; refine wpList_append_bs rfl (.tmp 41) (.tmp 42) rfl w3.heap.size _ la.length la rfl Opx.out _ (putBeI x (k : Int)) rfl Mx.out ?n2x ?s2x w3 Bpx.out ?_)
          case n2x => rw [F8.out]; omega
          case s2x => exact szx
          rintro vqx wqx oqx bqx gqx
          clear gqx Opx Bpx Mx szx
          rw [F8.out] at oqx
          have Oqx := hide oqx
          have Bqx := hide bqx
          have Cx := hide ((hb'.out.later L3.out).later bqx)
          have szqx := bqx.size
          clear oqx bqx
          go_wp2_with (at_builtin; refine wpList_append_bs rfl (.tmp 43) (.tmp 44) rfl w3.heap.size _ (la.length + k) (la ++ (putBeI x (k : Int))) rfl Oqx.out _ lb rfl Cx.out ?n3x ?s3x w3 Bqx.out ?_)
          case n3x => omega
          case s3x => exact szqx
          rintro vrx wrx orx brx grx
          clear grx Oqx Bqx Cx szqx
          have Rx : Hid (Bs wrx vrx (la ++ (putBeI x (k : Int)) ++ lb)) := by unfold Hid; rw [List.append_assoc]; exact (Bs.of_owns orx).1
          have Lrx := hide (L3.out.trans brx)
          have B2x := hide (B2.out.later brx)
          have B3x := hide (B3.out.later brx)
          clear orx brx
          go_wp2_with fail
          refine (big_c _ _ _ Rx.out).mono ?_
          rintro e w4 ⟨rfl, rfl⟩
          rw [F1.out, F3.out]
          clear Rx B2 B3 L3
          have B2 := B2x
          have B3 := B3x
          have L4 := Lrx
          clear B2x B3x Lrx
          have Ey : Hid ((w4.alloc (.cells #[] 5)).ownsRow w4.heap.size 5 1 (.slice (some ⟨w4.heap.size, 0, none⟩) 0 0) 0 (bv [])) := World.ownsRow_lit w4 #[] 0 (Nat.le_refl _) (by simp [maxLen]) rfl
          have LEy : Hid (Below w4.heap.size w4 (w4.alloc (.cells #[] 5))) := (Below.refl _ _).alloc (Nat.le_refl _) _
          have Ay : Hid (Bs (w4.alloc (.cells #[] 5)) (.slice aa la.length ca) la) := (ha'.out.later L4.out).later LEy.out
          go_wp2_with (at_builtin; refine wpList_append_bs rfl (.tmp 53) (.tmp 54) rfl w4.heap.size _ 0 [] rfl Ey.out _ la rfl Ay.out ?ny ?sy w4 LEy.out ?_)
          case ny => omega
          case sy => simp
          rintro vpy wpy opy bpy gpy
          clear gpy Ey LEy Ay
          have Opy := hide opy
          have Bpy := hide bpy
          have My := hide (B3.out.later bpy)
          have szy := bpy.size
          clear opy bpy
          go_wp2_with (at_builtin; refine wpList_append_bs rfl (.tmp 55) (.tmp 56) rfl w4.heap.size _ la.length la rfl Opy.out _ (putLeI x (k : Int)) rfl My.out ?n2y ?s2y w4 Bpy.out ?_)
          case n2y => rw [F9.out]; omega
          case s2y => exact szy
          rintro vqy wqy oqy bqy gqy
          clear gqy Opy Bpy My szy
          rw [F9.out] at oqy
          have Oqy := hide oqy
          have Bqy := hide bqy
          have Cy := hide ((hb'.out.later L4.out).later bqy)
          have szqy := bqy.size
          clear oqy bqy
          go_wp2_with (at_builtin; refine wpList_append_bs rfl (.tmp 57) (.tmp 58) rfl w4.heap.size _ (la.length + k) (la ++ (putLeI x (k : Int))) rfl Oqy.out _ lb rfl Cy.out ?n3y ?s3y w4 Bqy.out ?_)
          case n3y => omega
          case s3y => exact szqy
          rintro vry wry ory bry gry
          clear gry Oqy Bqy Cy szqy
          have Ry : Hid (Bs wry vry (la ++ (putLeI x (k : Int)) ++ lb)) := by unfold Hid; rw [List.append_assoc]; exact (Bs.of_owns ory).1
          have Lry := hide (L4.out.trans bry)
          have B2y := hide (B2.out.later bry)
          have B3y := hide (B3.out.later bry)
          clear ory bry
          go_wp2_with fail
          refine (little_c _ _ _ Ry.out).mono ?_
          rintro e w5 ⟨rfl, rfl⟩
          rw [F2.out, F4.out]
          clear Ry B2 B3 L4
          go_wp2_with fail
          refine (big_c _ _ _ B3y.out).mono ?_
          rintro e w6 ⟨rfl, rfl⟩
          rw [F5.out, F6.out]
          go_wp2_with fail
          refine (little_c _ _ _ B2y.out).mono ?_
          rintro e w7 ⟨rfl, rfl⟩
          rw [F7.out]
          clear B2y B3y
          generalize littleAt (putBeI x (k : Int)) 0 (k : Int) = q
          go_wp2_with (go_at_call 18; refine (bits_c x 0 (8 * (k : Int)) _ hx).mono ?_; rintro e w8 ⟨rfl, m8, rfl⟩)
          go_roundw
          case rel => exact ⟨k + 1, by omega, by omega, by go_num, Lry.out.drewN _⟩
          case measure => simp [intOf] <;> omega
        · go_wp2
          go_ret
          exact ⟨rfl, hlr.out⟩
end Go.Proofs.Ytfkojecipbjdpaa
