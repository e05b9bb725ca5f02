import Derived.Test.YtfakboehmcimpaaGreatMAT
import Derived.Test.YtfakboehmcimpaaGreatMAF
namespace Go.Proofs.YtfakboehmcimpaaGreat
open Go.ChangeShapes Go.WideShapes Go.ChangeAt Go.RowKit
set_option linter.unusedVariables false
set_option maxRecDepth 4000
set_option linter.unusedSimpArgs false
/-! The fixed fact of layer 11. -/
theorem bq1_q : begI 3 y192 [] true false false true [] (5, 33, 0) 0 1 (40, 1, 2, 0, 0) = bq1 := by unfold bq1 bg; rfl
theorem bq2_q : begI 3 y192 [] true false false true [] (5, 33, 0) 0 1 (40, 2, 2, 0, 0) = bq2 := by unfold bq2 bg; rfl
theorem bq3_q : begI 3 y192 [] true false false true [] (5, 33, 0) 0 1 (42, 2, 1, 0, 0) = bq3 := by unfold bq3 bg; rfl
theorem bq4_q : begI 3 y192 [] true false false true [] (5, 33, 0) 0 1 (3, 0, 18, 0, 0) = bq4 := by unfold bq4 bg; rfl
theorem bq5_q : begI 3 y192 [] true false false true [] (5, 33, 0) 0 1 (27, 0, 0, 0, 2) = bq5 := by unfold bq5 bg; rfl
theorem bq6_q : begI 3 bq5.1.1 bq5.1.2.1 false false false true [] (5, 33, 0) 0 1 (27, 0, 0, 0, 3) = bq6 := by unfold bq6 bg; rfl
theorem bq7_q : begI 3 bq5.1.1 bq5.1.2.1 false false false true [] (5, 33, 0) 0 1 (37, 0, 0, 0, 0) = bq7 := by unfold bq7 bg; rfl
theorem bq8_q : begI 3 bq5.1.1 bq5.1.2.1 true false false true bq6.1.2.2.2.2.1 (5, 33, 0) 0 1 (255, 0, 0, 0, 0) = bq8 := by unfold bq8 bg; rfl
theorem Sl.none11 (w : World) : Sl w (.slice none 0 0) [] := ⟨⟨rfl, by simp [maxLen], none, 0, rfl, by simp, .inl rfl⟩, by simp⟩
theorem Bs.nilA (w : World) (a : Option Addr) (c : Nat) : Bs w (.slice a 0 c) [] := ⟨by simp, a, c, rfl, by simp, .inl rfl⟩
set_option maxRecDepth 20000 in
set_option maxHeartbeats 8000000 in
theorem alive11_c (iB : IBegin11) : Alive11 := by
  intro w
  have q1 := bq1_q
  have q2 := bq2_q
  have q3 := bq3_q
  have q4 := bq4_q
  have q5 := bq5_q
  have q6 := bq6_q
  have q7 := bq7_q
  have q8 := bq8_q
  have f1 := bq1_f
  have f2 := bq2_f
  have f3 := bq3_f
  have f4 := bq4_f
  have f5 := bq5_f
  have f6 := bq6_f
  have f7 := bq7_f
  have f8 := bq8_f
  generalize bq8 = Z8 at *
  generalize bq7 = Z7 at *
  generalize bq6 = Z6 at *
  generalize bq5 = Z5 at *
  generalize bq4 = Z4 at *
  generalize bq3 = Z3 at *
  generalize bq2 = Z2 at *
  generalize bq1 = Z1 at *
  obtain ⟨⟨F1, D1, p1, l1, M1, s1⟩, dir1, len1, L1, cj1, jl1, sx1⟩ := Z1
  obtain ⟨⟨F2, D2, p2, l2, M2, s2⟩, dir2, len2, L2, cj2, jl2, sx2⟩ := Z2
  obtain ⟨⟨F3, D3, p3, l3, M3, s3⟩, dir3, len3, L3, cj3, jl3, sx3⟩ := Z3
  obtain ⟨⟨F4, D4, p4, l4, M4, s4⟩, dir4, len4, L4, cj4, jl4, sx4⟩ := Z4
  obtain ⟨⟨F5, D5, p5, l5, M5, s5⟩, dir5, len5, L5, cj5, jl5, sx5⟩ := Z5
  obtain ⟨⟨F6, D6, p6, l6, M6, s6⟩, dir6, len6, L6, cj6, jl6, sx6⟩ := Z6
  obtain ⟨⟨F7, D7, p7, l7, M7, s7⟩, dir7, len7, L7, cj7, jl7, sx7⟩ := Z7
  obtain ⟨⟨F8, D8, p8, l8, M8, s8⟩, dir8, len8, L8, cj8, jl8, sx8⟩ := Z8
  simp only [noneI, Prod.mk.injEq] at q1 f1 q2 f2 q3 f3 q4 f4 q5 f5 q6 f6 q7 f7 q8 f8
  obtain ⟨rfl, rfl, n1⟩ := f1
  obtain ⟨rfl, rfl⟩ := f2
  obtain ⟨rfl, rfl⟩ := f3
  obtain ⟨rfl, n4, m4, rfl⟩ := f4
  obtain ⟨⟨rfl, rfl, rfl, rfl, rfl, rfl⟩, rfl, rfl, rfl, rfl, rfl⟩ := f5
  obtain ⟨⟨rfl, rfl, rfl, rfl, rfl, rfl⟩, e61, e62, rfl, rfl, n6, rfl⟩ := f6
  subst e61
  subst e62
  subst f7 f8
  have Q1 := hide q1
  have Q2 := hide q2
  have Q3 := hide q3
  have Q4 := hide q4
  have Q5 := hide q5
  have Q6 := hide q6
  have Q7 := hide q7
  have Q8 := hide q8
  have N1 := hide n1
  have N4 := hide n4
  have MB4 := hide m4
  have N6 := hide n6
  clear q1 q2 q3 q4 q5 q6 q7 q8 n1 n4 m4 n6
  have LL := hide (Later.refl w)
  go_enter Tryz.func4, Tryz.ntmps4
  go_wp2_with fail
  refine (unit11_c _).mono ?_
  rintro e wu1 ⟨v, rfl, hl, ⟨ub1, uc1, ud1, uk1, ue1, rfl, hm⟩⟩
  replace LL := hide (LL.out.trans hl)
  have HM := hide hm
  clear hl hm
  go_wp2_with fail
  have hB := iB (uval ub1 3 uc1 ud1 uk1 ue1 true false false true none 0 0 (5, 33, 0)) 3 y192 [] true false false true none 0 0 (5, 33, 0) [] 0 1 (40, 1, 2, 0, 0) _ ⟨_, _, _, _, _, rfl, HM.out⟩ (Sl.none11 _) (by unfold OkC7; decide) ⟨by simp, by simp, by simp⟩ (by decide) (by decide) (by decide) (by decide) (by decide)
  rw [Q1.out] at hB
  refine hB.mono ?_
  clear hB
  rintro e wb1 ⟨x, y, rfl, hl, ⟨a1, b1, d1, k1, e1, m1, o1, rfl, hm, ha⟩, g1, h1, r1, t1, rfl, hb⟩
  simp only at hm ha hb ⊢
  replace LL := hide (LL.out.trans hl)
  rw [N1.out] at hb ⊢
  have HB1 := hide hb
  clear hl hm ha hb
  go_wp2_with (refine wpList_newUI rfl rfl rfl rfl rfl rfl 1 2 rfl rfl (by simp) (by simp) (by decide) (.tmp 21) (.tmp 22) (by simp) (by simp) (by simp) (by simp) rfl rfl rfl rfl a1 3 b1 d1 k1 e1 p1 false l1 true m1 M1.length o1 s1 rfl (1) 128 g1 128 h1 cj1 jl1 0 r1 0 t1 (0, 0, 0) sx1 rfl ?_)
  intro gu1 gi1 wn1 hBU hBI hl hg
  replace LL := hide (LL.out.trans hl)
  replace HB1 := hide (HB1.out.later hl)
  generalize Value.tuple #[Value.agg (uc a1 3 b1 d1 k1 e1 p1 false l1 true m1 M1.length o1 s1).toArray, Value.agg (ic (1) 128 g1 128 h1 cj1 jl1 0 r1 0 t1 (0, 0, 0) sx1).toArray] = ut1
  generalize Value.agg (uc a1 3 b1 d1 k1 e1 p1 false l1 true m1 M1.length o1 s1).toArray = ux1
  generalize Value.agg (ic (1) 128 g1 128 h1 cj1 jl1 0 r1 0 t1 (0, 0, 0) sx1).toArray = uy1
  generalize uval ub1 3 uc1 ud1 uk1 ue1 true false false true none 0 0 (5, 33, 0) = uu1
  generalize Value.agg #[Value.int IntKind.i64 40, Value.int IntKind.u64 1, Value.int IntKind.i64 2, Value.int IntKind.i64 0, Value.int IntKind.i64 0] = uk1c
  have BI1 := hide hBI
  clear hl hBU hBI hg HM
  go_wp2_with fail
  refine (unit11_c _).mono ?_
  rintro e wu2 ⟨v, rfl, hl, ⟨ub2, uc2, ud2, uk2, ue2, rfl, hm⟩⟩
  replace LL := hide (LL.out.trans hl)
  replace HB1 := hide (HB1.out.later hl)
  replace BI1 := hide (BI1.out.later hl)
  have HM := hide hm
  clear hl hm
  go_wp2_with fail
  have hB := iB (uval ub2 3 uc2 ud2 uk2 ue2 true false false true none 0 0 (5, 33, 0)) 3 y192 [] true false false true none 0 0 (5, 33, 0) [] 0 1 (40, 2, 2, 0, 0) _ ⟨_, _, _, _, _, rfl, HM.out⟩ (Sl.none11 _) (by unfold OkC7; decide) ⟨by simp, by simp, by simp⟩ (by decide) (by decide) (by decide) (by decide) (by decide)
  rw [Q2.out] at hB
  refine hB.mono ?_
  clear hB
  rintro e wb2 ⟨x, y, rfl, hl, ⟨a2, b2, d2, k2, e2, m2, o2, rfl, hm, ha⟩, g2, h2, r2, t2, rfl, hb⟩
  simp only at hm ha hb ⊢
  replace LL := hide (LL.out.trans hl)
  replace HB1 := hide (HB1.out.later hl)
  replace BI1 := hide (BI1.out.later hl)
  clear hl hm ha hb
  go_wp2_with (refine wpList_newUI rfl rfl rfl rfl rfl rfl 3 4 rfl rfl (by simp) (by simp) (by decide) (.tmp 27) (.tmp 28) (by simp) (by simp) (by simp) (by simp) rfl rfl rfl rfl a2 3 b2 d2 k2 e2 p2 false l2 true m2 M2.length o2 s2 rfl (0) len2 g2 L2.length h2 cj2 jl2 0 r2 0 t2 (0, 0, 0) (5, 33, 0) rfl ?_)
  intro gu2 gi2 wn2 hBU hBI hl hg
  replace LL := hide (LL.out.trans hl)
  replace HB1 := hide (HB1.out.later hl)
  replace BI1 := hide (BI1.out.later hl)
  generalize Value.tuple #[Value.agg (uc a2 3 b2 d2 k2 e2 p2 false l2 true m2 M2.length o2 s2).toArray, Value.agg (ic (0) len2 g2 L2.length h2 cj2 jl2 0 r2 0 t2 (0, 0, 0) (5, 33, 0)).toArray] = ut2
  generalize Value.agg (uc a2 3 b2 d2 k2 e2 p2 false l2 true m2 M2.length o2 s2).toArray = ux2
  generalize Value.agg (ic (0) len2 g2 L2.length h2 cj2 jl2 0 r2 0 t2 (0, 0, 0) (5, 33, 0)).toArray = uy2
  generalize uval ub2 3 uc2 ud2 uk2 ue2 true false false true none 0 0 (5, 33, 0) = uu2
  generalize Value.agg #[Value.int IntKind.i64 40, Value.int IntKind.u64 2, Value.int IntKind.i64 2, Value.int IntKind.i64 0, Value.int IntKind.i64 0] = uk2c
  have BI2 := hide hBI
  clear hl hBU hBI hg HM
  go_wp2_with fail
  refine (unit11_c _).mono ?_
  rintro e wu3 ⟨v, rfl, hl, ⟨ub3, uc3, ud3, uk3, ue3, rfl, hm⟩⟩
  replace LL := hide (LL.out.trans hl)
  replace HB1 := hide (HB1.out.later hl)
  replace BI1 := hide (BI1.out.later hl)
  replace BI2 := hide (BI2.out.later hl)
  have HM := hide hm
  clear hl hm
  go_wp2_with fail
  have hB := iB (uval ub3 3 uc3 ud3 uk3 ue3 true false false true none 0 0 (5, 33, 0)) 3 y192 [] true false false true none 0 0 (5, 33, 0) [] 0 1 (42, 2, 1, 0, 0) _ ⟨_, _, _, _, _, rfl, HM.out⟩ (Sl.none11 _) (by unfold OkC7; decide) ⟨by simp, by simp, by simp⟩ (by decide) (by decide) (by decide) (by decide) (by decide)
  rw [Q3.out] at hB
  refine hB.mono ?_
  clear hB
  rintro e wb3 ⟨x, y, rfl, hl, ⟨a3, b3, d3, k3, e3, m3, o3, rfl, hm, ha⟩, g3, h3, r3, t3, rfl, hb⟩
  simp only at hm ha hb ⊢
  replace LL := hide (LL.out.trans hl)
  replace HB1 := hide (HB1.out.later hl)
  replace BI1 := hide (BI1.out.later hl)
  replace BI2 := hide (BI2.out.later hl)
  clear hl hm ha hb
  go_wp2_with (refine wpList_newUI rfl rfl rfl rfl rfl rfl 5 6 rfl rfl (by simp) (by simp) (by decide) (.tmp 33) (.tmp 34) (by simp) (by simp) (by simp) (by simp) rfl rfl rfl rfl a3 3 b3 d3 k3 e3 p3 false l3 true m3 M3.length o3 s3 rfl (2) 64 g3 L3.length h3 cj3 jl3 0 r3 0 t3 (0, 0, 0) sx3 rfl ?_)
  intro gu3 gi3 wn3 hBU hBI hl hg
  replace LL := hide (LL.out.trans hl)
  replace HB1 := hide (HB1.out.later hl)
  replace BI1 := hide (BI1.out.later hl)
  replace BI2 := hide (BI2.out.later hl)
  generalize Value.tuple #[Value.agg (uc a3 3 b3 d3 k3 e3 p3 false l3 true m3 M3.length o3 s3).toArray, Value.agg (ic (2) 64 g3 L3.length h3 cj3 jl3 0 r3 0 t3 (0, 0, 0) sx3).toArray] = ut3
  generalize Value.agg (uc a3 3 b3 d3 k3 e3 p3 false l3 true m3 M3.length o3 s3).toArray = ux3
  generalize Value.agg (ic (2) 64 g3 L3.length h3 cj3 jl3 0 r3 0 t3 (0, 0, 0) sx3).toArray = uy3
  generalize uval ub3 3 uc3 ud3 uk3 ue3 true false false true none 0 0 (5, 33, 0) = uu3
  generalize Value.agg #[Value.int IntKind.i64 42, Value.int IntKind.u64 2, Value.int IntKind.i64 1, Value.int IntKind.i64 0, Value.int IntKind.i64 0] = uk3c
  have BI3 := hide hBI
  clear hl hBU hBI hg HM
  go_wp2_with fail
  refine (unit11_c _).mono ?_
  rintro e wu4 ⟨v, rfl, hl, ⟨ub4, uc4, ud4, uk4, ue4, rfl, hm⟩⟩
  replace LL := hide (LL.out.trans hl)
  replace HB1 := hide (HB1.out.later hl)
  replace BI1 := hide (BI1.out.later hl)
  replace BI2 := hide (BI2.out.later hl)
  replace BI3 := hide (BI3.out.later hl)
  have HM := hide hm
  clear hl hm
  go_wp2_with fail
  have hB := iB (uval ub4 3 uc4 ud4 uk4 ue4 true false false true none 0 0 (5, 33, 0)) 3 y192 [] true false false true none 0 0 (5, 33, 0) [] 0 1 (3, 0, 18, 0, 0) _ ⟨_, _, _, _, _, rfl, HM.out⟩ (Sl.none11 _) (by unfold OkC7; decide) ⟨by simp, by simp, by simp⟩ (by decide) (by decide) (by decide) (by decide) (by decide)
  rw [Q4.out] at hB
  refine hB.mono ?_
  clear hB
  rintro e wb4 ⟨x, y, rfl, hl, ⟨a4, b4, d4, k4, e4, m4, o4, rfl, hm, ha⟩, g4, h4, r4, t4, rfl, hb⟩
  simp only at hm ha hb ⊢
  replace LL := hide (LL.out.trans hl)
  replace HB1 := hide (HB1.out.later hl)
  replace BI1 := hide (BI1.out.later hl)
  replace BI2 := hide (BI2.out.later hl)
  replace BI3 := hide (BI3.out.later hl)
  rw [N4.out] at hb ⊢
  have HB4 := hide hb
  clear hl hm ha hb
  go_wp2_with (refine wpList_newUI rfl rfl rfl rfl rfl rfl 7 8 rfl rfl (by simp) (by simp) (by decide) (.tmp 39) (.tmp 40) (by simp) (by simp) (by simp) (by simp) rfl rfl rfl rfl a4 3 b4 d4 k4 e4 p4 false l4 true m4 M4.length o4 (0, 0, 0) rfl (dir4) 18 g4 18 h4 cj4 jl4 0 r4 0 t4 (0, 0, 0) sx4 rfl ?_)
  intro gu4 gi4 wn4 hBU hBI hl hg
  replace LL := hide (LL.out.trans hl)
  replace HB1 := hide (HB1.out.later hl)
  replace BI1 := hide (BI1.out.later hl)
  replace BI2 := hide (BI2.out.later hl)
  replace BI3 := hide (BI3.out.later hl)
  replace HB4 := hide (HB4.out.later hl)
  generalize Value.tuple #[Value.agg (uc a4 3 b4 d4 k4 e4 p4 false l4 true m4 M4.length o4 (0, 0, 0)).toArray, Value.agg (ic (dir4) 18 g4 18 h4 cj4 jl4 0 r4 0 t4 (0, 0, 0) sx4).toArray] = ut4
  generalize Value.agg (uc a4 3 b4 d4 k4 e4 p4 false l4 true m4 M4.length o4 (0, 0, 0)).toArray = ux4
  generalize Value.agg (ic (dir4) 18 g4 18 h4 cj4 jl4 0 r4 0 t4 (0, 0, 0) sx4).toArray = uy4
  generalize uval ub4 3 uc4 ud4 uk4 ue4 true false false true none 0 0 (5, 33, 0) = uu4
  generalize Value.agg #[Value.int IntKind.i64 3, Value.int IntKind.u64 0, Value.int IntKind.i64 18, Value.int IntKind.i64 0, Value.int IntKind.i64 0] = uk4c
  have BI4 := hide hBI
  have BU4 := hide hBU
  clear hl hBU hBI hg HM
  go_wp2_with fail
  refine (unit11_c _).mono ?_
  rintro e wu5 ⟨v, rfl, hl, ⟨ub5, uc5, ud5, uk5, ue5, rfl, hm⟩⟩
  replace LL := hide (LL.out.trans hl)
  replace HB1 := hide (HB1.out.later hl)
  replace BI1 := hide (BI1.out.later hl)
  replace BI2 := hide (BI2.out.later hl)
  replace BI3 := hide (BI3.out.later hl)
  replace HB4 := hide (HB4.out.later hl)
  replace BI4 := hide (BI4.out.later hl)
  replace BU4 := hide (BU4.out.later hl)
  have HM := hide hm
  clear hl hm
  go_wp2_with fail
  have hB := iB (uval ub5 3 uc5 ud5 uk5 ue5 true false false true none 0 0 (5, 33, 0)) 3 y192 [] true false false true none 0 0 (5, 33, 0) [] 0 1 (27, 0, 0, 0, 2) _ ⟨_, _, _, _, _, rfl, HM.out⟩ (Sl.none11 _) (by unfold OkC7; decide) ⟨by simp, by simp, by simp⟩ (by decide) (by decide) (by decide) (by decide) (by decide)
  rw [Q5.out] at hB
  refine hB.mono ?_
  clear hB
  rintro e wb5 ⟨x, y, rfl, hl, ⟨a5, b5, d5, k5, e5, m5, o5, rfl, hm, ha⟩, g5, h5, r5, t5, rfl, hb⟩
  simp only at hm ha hb ⊢
  replace LL := hide (LL.out.trans hl)
  replace HB1 := hide (HB1.out.later hl)
  replace BI1 := hide (BI1.out.later hl)
  replace BI2 := hide (BI2.out.later hl)
  replace BI3 := hide (BI3.out.later hl)
  replace HB4 := hide (HB4.out.later hl)
  replace BI4 := hide (BI4.out.later hl)
  replace BU4 := hide (BU4.out.later hl)
  have HM5 := hide hm
  have HS5 := hide (ha.sl (Sl.none11 _))
  rw [show ([] : List Sns).length = 0 from rfl, show ([] : List UInt8).length = 0 from rfl] at *
  clear hl hm ha hb
  go_wp2_with (refine wpList_newUI rfl rfl rfl rfl rfl rfl 9 10 rfl rfl (by simp) (by simp) (by decide) (.tmp 45) (.tmp 46) (by simp) (by simp) (by simp) (by simp) rfl rfl rfl rfl a5 3 b5 d5 k5 e5 false false false true m5 0 o5 (5, 33, 0) rfl (0) 0 g5 0 h5 (0, 0, 0, 0, 0) 0 0 r5 0 t5 (0, 0, 0) (0, 0, 0) rfl ?_)
  intro gu5 gi5 wn5 hBU hBI hl hg
  replace LL := hide (LL.out.trans hl)
  replace HB1 := hide (HB1.out.later hl)
  replace BI1 := hide (BI1.out.later hl)
  replace BI2 := hide (BI2.out.later hl)
  replace BI3 := hide (BI3.out.later hl)
  replace HB4 := hide (HB4.out.later hl)
  replace BI4 := hide (BI4.out.later hl)
  replace BU4 := hide (BU4.out.later hl)
  replace HM5 := hide (HM5.out.later hl)
  replace HS5 := hide (HS5.out.later hl)
  generalize Value.tuple #[Value.agg (uc a5 3 b5 d5 k5 e5 false false false true m5 0 o5 (5, 33, 0)).toArray, Value.agg (ic (0) 0 g5 0 h5 (0, 0, 0, 0, 0) 0 0 r5 0 t5 (0, 0, 0) (0, 0, 0)).toArray] = ut5
  generalize Value.agg (uc a5 3 b5 d5 k5 e5 false false false true m5 0 o5 (5, 33, 0)).toArray = ux5
  generalize Value.agg (ic (0) 0 g5 0 h5 (0, 0, 0, 0, 0) 0 0 r5 0 t5 (0, 0, 0) (0, 0, 0)).toArray = uy5
  generalize uval ub5 3 uc5 ud5 uk5 ue5 true false false true none 0 0 (5, 33, 0) = uu5
  generalize Value.agg #[Value.int IntKind.i64 27, Value.int IntKind.u64 0, Value.int IntKind.i64 0, Value.int IntKind.i64 0, Value.int IntKind.i64 2] = uk5c
  have BI5 := hide hBI
  have BU5 := hide hBU
  clear hl hBU hBI hg HM
  have x_0 := BU5.out.cell 0
  have x_1 := BU5.out.cell 1
  have x_2 := BU5.out.cell 2
  have x_3 := BU5.out.cell 3
  have x_4 := BU5.out.cell 4
  have x_5 := BU5.out.cell 5
  have x_6 := BU5.out.cell 6
  have x_7 := BU5.out.cell 7
  have x_8 := BU5.out.cell 8
  have x_9 := BU5.out.cell 9
  go_wp2_with fail
  have hB := iB (uval a5 3 b5 d5 k5 e5 false false false true m5 0 o5 (5, 33, 0)) 3 F6 [] false false false true m5 0 o5 (5, 33, 0) [] 0 1 (27, 0, 0, 0, 3) _ ⟨_, _, _, _, _, rfl, HM5.out⟩ HS5.out (by unfold OkC7; decide) ⟨by simp, by simp, by simp⟩ (by decide) (by decide) (by decide) (by decide) (by decide)
  rw [Q6.out] at hB
  refine hB.mono ?_
  clear hB
  rintro e wb6 ⟨x, y, rfl, hl, ⟨a6, b6, d6, k6, e6, m6, o6, rfl, hm, ha⟩, g6, h6, r6, t6, rfl, hb⟩
  simp only at hm ha hb ⊢
  replace LL := hide (LL.out.trans hl)
  replace HB1 := hide (HB1.out.later hl)
  replace BI1 := hide (BI1.out.later hl)
  replace BI2 := hide (BI2.out.later hl)
  replace BI3 := hide (BI3.out.later hl)
  replace HB4 := hide (HB4.out.later hl)
  replace BI4 := hide (BI4.out.later hl)
  replace BU4 := hide (BU4.out.later hl)
  replace HM5 := hide (HM5.out.later hl)
  replace HS5 := hide (HS5.out.later hl)
  replace BI5 := hide (BI5.out.later hl)
  replace BU5 := hide (BU5.out.later hl)
  clear x_0 x_1 x_2 x_3 x_4 x_5 x_6 x_7 x_8 x_9
  have HM6 := hide hm
  have HS6 := hide (ha.sl (HS5.out))
  rw [N6.out] at HS6 ⊢
  rw [show ([] : List UInt8).length = 0 from rfl] at *
  clear hl hm ha hb
  go_wp2_with (refine wpList_newUI rfl rfl rfl rfl rfl rfl 11 12 rfl rfl (by simp) (by simp) (by decide) (.tmp 51) (.tmp 52) (by simp) (by simp) (by simp) (by simp) rfl rfl rfl rfl a6 3 b6 d6 k6 e6 true false false true m6 1 o6 (5, 33, 0) rfl (0) 0 g6 0 h6 (0, 0, 0, 0, 0) 0 0 r6 0 t6 (0, 0, 0) (0, 0, 0) rfl ?_)
  intro gu6 gi6 wn6 hBU hBI hl hg
  replace LL := hide (LL.out.trans hl)
  replace HB1 := hide (HB1.out.later hl)
  replace BI1 := hide (BI1.out.later hl)
  replace BI2 := hide (BI2.out.later hl)
  replace BI3 := hide (BI3.out.later hl)
  replace HB4 := hide (HB4.out.later hl)
  replace BI4 := hide (BI4.out.later hl)
  replace BU4 := hide (BU4.out.later hl)
  replace HM5 := hide (HM5.out.later hl)
  replace HS5 := hide (HS5.out.later hl)
  replace BI5 := hide (BI5.out.later hl)
  replace BU5 := hide (BU5.out.later hl)
  replace HM6 := hide (HM6.out.later hl)
  replace HS6 := hide (HS6.out.later hl)
  generalize Value.tuple #[Value.agg (uc a6 3 b6 d6 k6 e6 true false false true m6 1 o6 (5, 33, 0)).toArray, Value.agg (ic (0) 0 g6 0 h6 (0, 0, 0, 0, 0) 0 0 r6 0 t6 (0, 0, 0) (0, 0, 0)).toArray] = ut6
  generalize Value.agg (uc a6 3 b6 d6 k6 e6 true false false true m6 1 o6 (5, 33, 0)).toArray = ux6
  generalize Value.agg (ic (0) 0 g6 0 h6 (0, 0, 0, 0, 0) 0 0 r6 0 t6 (0, 0, 0) (0, 0, 0)).toArray = uy6
  generalize Value.agg #[Value.int IntKind.i64 27, Value.int IntKind.u64 0, Value.int IntKind.i64 0, Value.int IntKind.i64 0, Value.int IntKind.i64 3] = uk6c
  have BI6 := hide hBI
  have BU6 := hide hBU
  clear hl hBU hBI hg
  have x_0 := BU5.out.cell 0
  have x_1 := BU5.out.cell 1
  have x_2 := BU5.out.cell 2
  have x_3 := BU5.out.cell 3
  have x_4 := BU5.out.cell 4
  have x_5 := BU5.out.cell 5
  have x_6 := BU5.out.cell 6
  have x_7 := BU5.out.cell 7
  have x_8 := BU5.out.cell 8
  have x_9 := BU5.out.cell 9
  go_wp2_with fail
  have hB := iB (uval a5 3 b5 d5 k5 e5 false false false true m5 0 o5 (5, 33, 0)) 3 F6 [] false false false true m5 0 o5 (5, 33, 0) [] 0 1 (37, 0, 0, 0, 0) _ ⟨_, _, _, _, _, rfl, HM5.out⟩ HS5.out (by unfold OkC7; decide) ⟨by simp, by simp, by simp⟩ (by decide) (by decide) (by decide) (by decide) (by decide)
  rw [Q7.out] at hB
  refine hB.mono ?_
  clear hB
  rintro e wb7 ⟨x, y, rfl, hl, ⟨a7, b7, d7, k7, e7, m7, o7, rfl, hm, ha⟩, g7, h7, r7, t7, rfl, hb⟩
  simp only at hm ha hb ⊢
  replace LL := hide (LL.out.trans hl)
  replace HB1 := hide (HB1.out.later hl)
  replace BI1 := hide (BI1.out.later hl)
  replace BI2 := hide (BI2.out.later hl)
  replace BI3 := hide (BI3.out.later hl)
  replace HB4 := hide (HB4.out.later hl)
  replace BI4 := hide (BI4.out.later hl)
  replace BU4 := hide (BU4.out.later hl)
  replace HM5 := hide (HM5.out.later hl)
  replace HS5 := hide (HS5.out.later hl)
  replace BI5 := hide (BI5.out.later hl)
  replace BU5 := hide (BU5.out.later hl)
  replace HM6 := hide (HM6.out.later hl)
  replace HS6 := hide (HS6.out.later hl)
  replace BI6 := hide (BI6.out.later hl)
  replace BU6 := hide (BU6.out.later hl)
  clear x_0 x_1 x_2 x_3 x_4 x_5 x_6 x_7 x_8 x_9
  clear hl hm ha hb
  go_wp2_with (refine wpList_newUI rfl rfl rfl rfl rfl rfl 13 14 rfl rfl (by simp) (by simp) (by decide) (.tmp 57) (.tmp 58) (by simp) (by simp) (by simp) (by simp) rfl rfl rfl rfl a7 3 b7 d7 k7 e7 p7 false l7 true m7 M7.length o7 s7 rfl (dir7) len7 g7 L7.length h7 cj7 jl7 0 r7 0 t7 (0, 0, 0) (2, 58, 0) rfl ?_)
  intro gu7 gi7 wn7 hBU hBI hl hg
  replace LL := hide (LL.out.trans hl)
  replace HB1 := hide (HB1.out.later hl)
  replace BI1 := hide (BI1.out.later hl)
  replace BI2 := hide (BI2.out.later hl)
  replace BI3 := hide (BI3.out.later hl)
  replace HB4 := hide (HB4.out.later hl)
  replace BI4 := hide (BI4.out.later hl)
  replace BU4 := hide (BU4.out.later hl)
  replace HM5 := hide (HM5.out.later hl)
  replace HS5 := hide (HS5.out.later hl)
  replace BI5 := hide (BI5.out.later hl)
  replace BU5 := hide (BU5.out.later hl)
  replace HM6 := hide (HM6.out.later hl)
  replace HS6 := hide (HS6.out.later hl)
  replace BI6 := hide (BI6.out.later hl)
  replace BU6 := hide (BU6.out.later hl)
  generalize Value.tuple #[Value.agg (uc a7 3 b7 d7 k7 e7 p7 false l7 true m7 M7.length o7 s7).toArray, Value.agg (ic (dir7) len7 g7 L7.length h7 cj7 jl7 0 r7 0 t7 (0, 0, 0) (2, 58, 0)).toArray] = ut7
  generalize Value.agg (uc a7 3 b7 d7 k7 e7 p7 false l7 true m7 M7.length o7 s7).toArray = ux7
  generalize Value.agg (ic (dir7) len7 g7 L7.length h7 cj7 jl7 0 r7 0 t7 (0, 0, 0) (2, 58, 0)).toArray = uy7
  generalize Value.agg #[Value.int IntKind.i64 37, Value.int IntKind.u64 0, Value.int IntKind.i64 0, Value.int IntKind.i64 0, Value.int IntKind.i64 0] = uk7c
  have BI7 := hide hBI
  clear hl hBU hBI hg
  have x_0 := BU6.out.cell 0
  have x_1 := BU6.out.cell 1
  have x_2 := BU6.out.cell 2
  have x_3 := BU6.out.cell 3
  have x_4 := BU6.out.cell 4
  have x_5 := BU6.out.cell 5
  have x_6 := BU6.out.cell 6
  have x_7 := BU6.out.cell 7
  have x_8 := BU6.out.cell 8
  have x_9 := BU6.out.cell 9
  go_wp2_with fail
  have hB := iB (uval a6 3 b6 d6 k6 e6 true false false true m6 1 o6 (5, 33, 0)) 3 F6 [] true false false true m6 1 o6 (5, 33, 0) M6 0 1 (255, 0, 0, 0, 0) _ ⟨_, _, _, _, _, rfl, HM6.out⟩ HS6.out (by unfold OkC7; decide) ⟨by simp, by simp, by simp⟩ (by decide) (by decide) (by decide) (by decide) (by decide)
  rw [Q8.out] at hB
  refine hB.mono ?_
  clear hB
  rintro e wb8 ⟨x, y, rfl, hl, ⟨a8, b8, d8, k8, e8, m8, o8, rfl, hm, ha⟩, g8, h8, r8, t8, rfl, hb⟩
  simp only at hm ha hb ⊢
  replace LL := hide (LL.out.trans hl)
  replace HB1 := hide (HB1.out.later hl)
  replace BI1 := hide (BI1.out.later hl)
  replace BI2 := hide (BI2.out.later hl)
  replace BI3 := hide (BI3.out.later hl)
  replace HB4 := hide (HB4.out.later hl)
  replace BI4 := hide (BI4.out.later hl)
  replace BU4 := hide (BU4.out.later hl)
  replace HM5 := hide (HM5.out.later hl)
  replace HS5 := hide (HS5.out.later hl)
  replace BI5 := hide (BI5.out.later hl)
  replace BU5 := hide (BU5.out.later hl)
  replace HM6 := hide (HM6.out.later hl)
  replace HS6 := hide (HS6.out.later hl)
  replace BI6 := hide (BI6.out.later hl)
  replace BU6 := hide (BU6.out.later hl)
  replace BI7 := hide (BI7.out.later hl)
  clear x_0 x_1 x_2 x_3 x_4 x_5 x_6 x_7 x_8 x_9
  clear hl hm ha hb
  go_wp2_with (refine wpList_newUI rfl rfl rfl rfl rfl rfl 15 16 rfl rfl (by simp) (by simp) (by decide) (.tmp 63) (.tmp 64) (by simp) (by simp) (by simp) (by simp) rfl rfl rfl rfl a8 3 b8 d8 k8 e8 p8 false l8 true m8 M8.length o8 s8 rfl (dir8) len8 g8 L8.length h8 cj8 jl8 0 r8 0 t8 (0, 0, 0) (5, 32, 0) rfl ?_)
  intro gu8 gi8 wn8 hBU hBI hl hg
  replace LL := hide (LL.out.trans hl)
  replace HB1 := hide (HB1.out.later hl)
  replace BI1 := hide (BI1.out.later hl)
  replace BI2 := hide (BI2.out.later hl)
  replace BI3 := hide (BI3.out.later hl)
  replace HB4 := hide (HB4.out.later hl)
  replace BI4 := hide (BI4.out.later hl)
  replace BU4 := hide (BU4.out.later hl)
  replace HM5 := hide (HM5.out.later hl)
  replace HS5 := hide (HS5.out.later hl)
  replace BI5 := hide (BI5.out.later hl)
  replace BU5 := hide (BU5.out.later hl)
  replace HM6 := hide (HM6.out.later hl)
  replace HS6 := hide (HS6.out.later hl)
  replace BI6 := hide (BI6.out.later hl)
  replace BU6 := hide (BU6.out.later hl)
  replace BI7 := hide (BI7.out.later hl)
  generalize Value.tuple #[Value.agg (uc a8 3 b8 d8 k8 e8 p8 false l8 true m8 M8.length o8 s8).toArray, Value.agg (ic (dir8) len8 g8 L8.length h8 cj8 jl8 0 r8 0 t8 (0, 0, 0) (5, 32, 0)).toArray] = ut8
  generalize Value.agg (uc a8 3 b8 d8 k8 e8 p8 false l8 true m8 M8.length o8 s8).toArray = ux8
  generalize Value.agg (ic (dir8) len8 g8 L8.length h8 cj8 jl8 0 r8 0 t8 (0, 0, 0) (5, 32, 0)).toArray = uy8
  generalize Value.agg #[Value.int IntKind.i64 255, Value.int IntKind.u64 0, Value.int IntKind.i64 0, Value.int IntKind.i64 0, Value.int IntKind.i64 0] = uk8c
  have BI8 := hide hBI
  clear hl hBU hBI hg
  go_wp2_with fail
  have hc := fun q => ((Later.refl wn8).drew.trans (later_rg wn8.drew q))
  refine wp_region_text [false, false, false, false, false, false, false, false, false, false, false, false, false, false, false, false, false, false, false, false, false, false, false, false, false, false, false, false, false, false, false, false, false, false, false, false, false, false, false, false, false, false, false, false, false, false, false, false, false, false, false, false, false, false, false, false, false, false, false, false, false, false, false, false, false, false, false, false, false, false, false, false, false, false, false, false, false, false, false, false, false, false, false, false, false, false, false, false, false, false, false, false, false, false] (by kernel_rfl) (by kernel_rfl) (by kernel_rfl) (by kernel_rfl) ?_
  rw [show (List.range' 0 (List.length [false, false, false, false, false, false, false, false, false, false, false, false, false, false, false, false, false, false, false, false, false, false, false, false, false, false, false, false, false, false, false, false, false, false, false, false, false, false, false, false, false, false, false, false, false, false, false, false, false, false, false, false, false, false, false, false, false, false, false, false, false, false, false, false, false, false, false, false, false, false, false, false, false, false, false, false, false, false, false, false, false, false, false, false, false, false, false, false, false, false, false, false, false, false])).zip [false, false, false, false, false, false, false, false, false, false, false, false, false, false, false, false, false, false, false, false, false, false, false, false, false, false, false, false, false, false, false, false, false, false, false, false, false, false, false, false, false, false, false, false, false, false, false, false, false, false, false, false, false, false, false, false, false, false, false, false, false, false, false, false, false, false, false, false, false, false, false, false, false, false, false, false, false, false, false, false, false, false, false, false, false, false, false, false, false, false, false, false, false, false] = [(0, false), (1, false), (2, false), (3, false), (4, false), (5, false), (6, false), (7, false), (8, false), (9, false), (10, false), (11, false), (12, false), (13, false), (14, false), (15, false), (16, false), (17, false), (18, false), (19, false), (20, false), (21, false), (22, false), (23, false), (24, false), (25, false), (26, false), (27, false), (28, false), (29, false), (30, false), (31, false), (32, false), (33, false), (34, false), (35, false), (36, false), (37, false), (38, false), (39, false), (40, false), (41, false), (42, false), (43, false), (44, false), (45, false), (46, false), (47, false), (48, false), (49, false), (50, false), (51, false), (52, false), (53, false), (54, false), (55, false), (56, false), (57, false), (58, false), (59, false), (60, false), (61, false), (62, false), (63, false), (64, false), (65, false), (66, false), (67, false), (68, false), (69, false), (70, false), (71, false), (72, false), (73, false), (74, false), (75, false), (76, false), (77, false), (78, false), (79, false), (80, false), (81, false), (82, false), (83, false), (84, false), (85, false), (86, false), (87, false), (88, false), (89, false), (90, false), (91, false), (92, false), (93, false)] from rfl]
  have cBI1_0 := fun q => (BI1.out.later (hc q)).cell 0
  have cBI1_1 := fun q => (BI1.out.later (hc q)).cell 1
  have cBI1_2 := fun q => (BI1.out.later (hc q)).cell 2
  have cBI2_0 := fun q => (BI2.out.later (hc q)).cell 0
  have cBI2_14 := fun q => (BI2.out.later (hc q)).cell 14
  have cBI2_15 := fun q => (BI2.out.later (hc q)).cell 15
  have cBI2_16 := fun q => (BI2.out.later (hc q)).cell 16
  iterate 22 (refine wpS_mild rfl (fun K hK => ?_); go_simp; refine hK _ ?_; clear hK K)
  refine wpS_call rfl (by kernel_rfl) 12 (Plain.of (by kernel_rfl)) [.const (.int .i64 5), .const (.int .i64 33), .const (.int .i64 0)] _ rfl [.int .i64 5, .int .i64 33, .int .i64 0] rfl (sval (5, 33, 0)) (fun wx hx => rof_c 5 33 0 wx) ?_
  refine wpS_eqG rfl (by kernel_rfl) 30 _ (.tmp 86) (.tmp 87) rfl _ _ rfl rfl Tryz.guard_sense true (fun w => sense_eq (5, 33, 0) (5, 33, 0) w) ?_
  clear cBI1_0 cBI1_1 cBI1_2 cBI2_0 cBI2_14 cBI2_15 cBI2_16
  have cBI3_0 := fun q => (BI3.out.later (hc q)).cell 0
  have cBI3_1 := fun q => (BI3.out.later (hc q)).cell 1
  have cBI4_1 := fun q => (BI4.out.later (hc q)).cell 1
  have cBI4_2 := fun q => (BI4.out.later (hc q)).cell 2
  have cBU4_7 := fun q => (BU4.out.later (hc q)).cell 7
  have cBU4_8 := fun q => (BU4.out.later (hc q)).cell 8
  have cBU4_9 := fun q => (BU4.out.later (hc q)).cell 9
  have hd12 : ∃ b o, g4 = some ⟨b, o, none⟩ ∧ wn8.cell? ⟨b, o + 12, none⟩ = some (.int .u8 33) := by
    have h := HB4.out
    obtain ⟨q1, a, cap, e, q2, q3⟩ := h
    simp at e
    obtain ⟨rfl, -, rfl⟩ := e
    have h12 := MB4.out
    have hlt : 12 < L4.length := by rw [N4.out]; decide
    rcases q3 with q3 | ⟨b, o, rfl, q3⟩
    · exfalso; rw [q3] at hlt; simp at hlt
    · refine ⟨b, o, rfl, ?_⟩
      have h := q3 12 hlt
      rw [List.getElem?_eq_getElem hlt] at h12
      have h33 : L4[12] = 33 := by simpa using h12
      rw [h33] at h
      exact h
  obtain ⟨bd, od, rfl, hd⟩ := hd12
  have fd := fun q => (hc q).cellOf hd
  iterate 33 (refine wpS_mild rfl (fun K hK => ?_); go_simp; refine hK _ ?_; clear hK K)
  refine wpS_eqG rfl (by kernel_rfl) 30 _ (.tmp 120) (.tmp 121) rfl _ _ rfl rfl Tryz.guard_sense true (fun w => sense_eq (0, 0, 0) (0, 0, 0) w) ?_
  clear cBI3_0 cBI3_1 cBI4_1 cBI4_2 cBU4_7 cBU4_8 cBU4_9
  clear fd hd
  iterate 2 (refine wpS_mild rfl (fun K hK => ?_); go_simp; refine hK _ ?_; clear hK K)
  refine wpS_loadG rfl (by kernel_rfl) 44 (.tmp 10) rfl gi5 0 rfl (ic 0 0 g5 0 h5 (0, 0, 0, 0, 0) 0 0 r5 0 t5 (0, 0, 0) (0, 0, 0)) _ ((World.rangeAt_drew _ _ _ _).2 BI5.out.range) Tryz.underlying44 rfl (by rw [Tryz.info_intent]; rfl) ?_
  refine wpS_loadG rfl (by kernel_rfl) 44 (.tmp 12) rfl gi6 0 rfl (ic 0 0 g6 0 h6 (0, 0, 0, 0, 0) 0 0 r6 0 t6 (0, 0, 0) (0, 0, 0)) _ ((World.rangeAt_drew _ _ _ _).2 BI6.out.range) Tryz.underlying44 rfl (by rw [Tryz.info_intent]; rfl) ?_
  refine wpS_call rfl (by kernel_rfl) 10 (Plain.of (by kernel_rfl)) [.tmp 125, .tmp 126] _ rfl [ival 0 0 g5 0 h5 (0, 0, 0, 0, 0) 0 0 r5 0 t5 (0, 0, 0) (0, 0, 0), ival 0 0 g6 0 h6 (0, 0, 0, 0, 0) 0 0 r6 0 t6 (0, 0, 0) (0, 0, 0)] rfl (.bool true) (fun wx hx => rsame11_c (T := noneI (0, 0, 0)) wx ⟨g5, h5, r5, t5, rfl, Bs.nilA wx g5 h5⟩ ⟨g6, h6, r6, t6, rfl, Bs.nilA wx g6 h6⟩) ?_
  have cBU5_2 := fun q => (BU5.out.later (hc q)).cell 2
  have cBU6_2 := fun q => (BU6.out.later (hc q)).cell 2
  have cBU6_6 := fun q => (BU6.out.later (hc q)).cell 6
  have cBI7_14 := fun q => (BI7.out.later (hc q)).cell 14
  have cBI7_15 := fun q => (BI7.out.later (hc q)).cell 15
  have cBI7_16 := fun q => (BI7.out.later (hc q)).cell 16
  iterate 21 (refine wpS_mild rfl (fun K hK => ?_); go_simp; refine hK _ ?_; clear hK K)
  refine wpS_call rfl (by kernel_rfl) 12 (Plain.of (by kernel_rfl)) [.const (.int .i64 2), .const (.int .i64 58), .const (.int .i64 0)] _ rfl [.int .i64 2, .int .i64 58, .int .i64 0] rfl (sval (2, 58, 0)) (fun wx hx => rof_c 2 58 0 wx) ?_
  refine wpS_eqG rfl (by kernel_rfl) 30 _ (.tmp 148) (.tmp 149) rfl _ _ rfl rfl Tryz.guard_sense true (fun w => sense_eq (2, 58, 0) (2, 58, 0) w) ?_
  clear cBU5_2 cBU6_2 cBU6_6 cBI7_14 cBI7_15 cBI7_16
  have cBI8_14 := fun q => (BI8.out.later (hc q)).cell 14
  have cBI8_15 := fun q => (BI8.out.later (hc q)).cell 15
  have cBI8_16 := fun q => (BI8.out.later (hc q)).cell 16
  iterate 4 (refine wpS_mild rfl (fun K hK => ?_); go_simp; refine hK _ ?_; clear hK K)
  refine wpS_call rfl (by kernel_rfl) 12 (Plain.of (by kernel_rfl)) [.const (.int .i64 5), .const (.int .i64 32), .const (.int .i64 0)] _ rfl [.int .i64 5, .int .i64 32, .int .i64 0] rfl (sval (5, 32, 0)) (fun wx hx => rof_c 5 32 0 wx) ?_
  refine wpS_eqG rfl (by kernel_rfl) 30 _ (.tmp 154) (.tmp 155) rfl _ _ rfl rfl Tryz.guard_sense true (fun w => sense_eq (5, 32, 0) (5, 32, 0) w) ?_
  iterate 2 (refine wpS_mild rfl (fun K hK => ?_); go_simp; refine hK _ ?_; clear hK K)
  refine wpS_nil (fun wx hwx => ?_)
  replace LL := hide (LL.out.trans ((Later.refl wn8).drew.trans hwx))
  clear hwx hc
  clear cBI8_14 cBI8_15 cBI8_16
  go_wp2
  go_ret
  exact ⟨by first | rfl | simp, LL.out⟩
end Go.Proofs.YtfakboehmcimpaaGreat
