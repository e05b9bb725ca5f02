import Derived.Test.YtfakboehmcimpaaGreatMAQ
namespace Go.Proofs.YtfakboehmcimpaaGreat
open Go.ChangeShapes Go.WideShapes Go.ChangeAt Go.RowKit
set_option linter.unusedVariables false
set_option maxRecDepth 4000
set_option linter.unusedSimpArgs false
/-! The document's job: Unit, Same. -/
set_option maxRecDepth 20000 in
set_option maxHeartbeats 4000000 in
theorem runit_c {u v : Value} {n n' : Nat} {F F' : List UInt8} {D D' : List Drt} {p r l cc p' r' l' cc' : Bool} {am am' : Option Addr} {m m' cm cm' : Nat} {s s' : Sns} {M M' : List Sns} (w : World) (hU : Un w u n F D p r l cc am m cm s) (hV : Un w v n' F' D' p' r' l' cc' am' m' cm' s') (hA : Sl w (.slice am m cm) M) (hA' : Sl w (.slice am' m' cm') M') :
    Calls Tryz.prog 9 #[u, v] w fun e w' => e = .returned (.bool ((p == p' && (r == r' && (l == l' && (F == F' && D == D')))) && (cc == cc' && (s == s' && M == M')))) ∧ Later w w' := by
  obtain ⟨ab, cb, aD, k, cD, rfl, hm⟩ := hU
  obtain ⟨ab', cb', aD', k', cD', rfl, hm'⟩ := hV
  have HM := hide hm
  have HM' := hide hm'
  have HA := hide hA
  have HA' := hide hA'
  clear hm hm' hA hA'
  have BX := hide ((Box.new w 32 (uc ab n cb aD k cD p r l cc am m cm s).toArray).alloc (.cells (uc ab' n' cb' aD' k' cD' p' r' l' cc' am' m' cm' s').toArray 32))
  have BY : Hid (Box _ (w.heap.size + 1) 32 (uc ab' n' cb' aD' k' cD' p' r' l' cc' am' m' cm' s')) := Box.new' (w.alloc (.cells (uc ab n cb aD k cD p r l cc am m cm s).toArray 32)) 32 (uc ab' n' cb' aD' k' cD' p' r' l' cc' am' m' cm' s').toArray _ rfl _ (by simp)
  have LL := hide (((Later.refl w).alloc (.cells (uc ab n cb aD k cD p r l cc am m cm s).toArray 32)).alloc (.cells (uc ab' n' cb' aD' k' cD' p' r' l' cc' am' m' cm' s').toArray 32))
  have x_0 := BX.out.cell 0
  have x_1 := BX.out.cell 1
  have x_2 := BX.out.cell 2
  have x_3 := BX.out.cell 3
  have x_4 := BX.out.cell 4
  have x_5 := BX.out.cell 5
  have x_6 := BX.out.cell 6
  have x_7 := BX.out.cell 7
  have x_8 := BX.out.cell 8
  have x_9 := BX.out.cell 9
  have y_0 := BY.out.cell 0
  have y_1 := BY.out.cell 1
  have y_2 := BY.out.cell 2
  have y_3 := BY.out.cell 3
  have y_4 := BY.out.cell 4
  have y_5 := BY.out.cell 5
  have y_6 := BY.out.cell 6
  have y_7 := BY.out.cell 7
  have y_8 := BY.out.cell 8
  have y_9 := BY.out.cell 9
  go_enter Tryz.func9, Tryz.ntmps9
  go_wp2_with fail
  generalize (w.alloc (.cells (uc ab n cb aD k cD p r l cc am m cm s).toArray 32)).alloc (.cells (uc ab' n' cb' aD' k' cD' p' r' l' cc' am' m' cm' s').toArray 32) = w1 at *
  refine (rsame5_c _ (show Slt w1 (.agg #[.slice ab n cb, .slice aD k cD, .bool p, .bool r, .bool l]) n F D p r l from ⟨_, _, _, _, _, rfl, HM.out.later LL.out⟩) (show Slt w1 (.agg #[.slice ab' n' cb', .slice aD' k' cD', .bool p', .bool r', .bool l']) n' F' D' p' r' l' from ⟨_, _, _, _, _, rfl, HM'.out.later LL.out⟩)).mono ?_
  rintro e w2 ⟨rfl, hl⟩
  replace LL := hide (LL.out.trans hl)
  replace BX := hide (BX.out.later hl)
  replace BY := hide (BY.out.later hl)
  clear hl HM HM'
  clear x_0 x_1 x_2 x_3 x_4 x_5 x_6 x_7 x_8 x_9
  clear y_0 y_1 y_2 y_3 y_4 y_5 y_6 y_7 y_8 y_9
  generalize hX : (p == p' && (r == r' && (l == l' && (F == F' && D == D')))) = X at *
  have HX := hide hX
  clear hX
  have x_0 := BX.out.cell 0
  have x_1 := BX.out.cell 1
  have x_2 := BX.out.cell 2
  have x_3 := BX.out.cell 3
  have x_4 := BX.out.cell 4
  have x_5 := BX.out.cell 5
  have x_6 := BX.out.cell 6
  have x_7 := BX.out.cell 7
  have x_8 := BX.out.cell 8
  have x_9 := BX.out.cell 9
  have y_0 := BY.out.cell 0
  have y_1 := BY.out.cell 1
  have y_2 := BY.out.cell 2
  have y_3 := BY.out.cell 3
  have y_4 := BY.out.cell 4
  have y_5 := BY.out.cell 5
  have y_6 := BY.out.cell 6
  have y_7 := BY.out.cell 7
  have y_8 := BY.out.cell 8
  have y_9 := BY.out.cell 9
  cases X with
  | false =>
    go_wp2
    go_ret
    exact ⟨by rw [HX.out]; rfl, LL.out⟩
  | true =>
  cases hq : (cc == cc') with
  | false =>
    have HQ := hide hq
    go_wp2
    go_ret
    exact ⟨by rw [HX.out, HQ.out]; rfl, LL.out⟩
  | true =>
  have HQ := hide hq
  cases hs : (s == s') with
  | false =>
    have HS := hide hs
    go_wp2_with (refine wpList_eqS9 (by kernel_rfl) (.tmp 19) (.tmp 21) rfl s s' rfl rfl false hs ?_)
    go_ret
    exact ⟨by rw [HX.out, HQ.out, HS.out]; rfl, LL.out⟩
  | true =>
  have HS := hide hs
  go_wp2_with (refine wpList_eqS9 (by kernel_rfl) (.tmp 19) (.tmp 21) rfl s s' rfl rfl true hs ?_)
  refine (rsame4_c _ ⟨HA.out.1.later LL.out, HA.out.2⟩ ⟨HA'.out.1.later LL.out, HA'.out.2⟩).mono ?_
  rintro e w3 ⟨rfl, hl⟩
  replace LL := hide (LL.out.trans hl)
  clear hl BX BY HA HA' hs
  clear x_0 x_1 x_2 x_3 x_4 x_5 x_6 x_7 x_8 x_9
  clear y_0 y_1 y_2 y_3 y_4 y_5 y_6 y_7 y_8 y_9
  go_wp2
  go_ret
  exact ⟨by rw [HX.out, HQ.out, HS.out]; rfl, LL.out⟩
theorem strOf_beq8 (L L' : List UInt8) : ((strOf L).toList == (strOf L').toList) = (L == L') := by rw [strOf_list, strOf_list]
set_option maxRecDepth 20000 in
set_option maxHeartbeats 4000000 in
theorem rsame10_c {u v : Value} {c c' : Cmd} {len took len' took' : Int} {L L' : List UInt8} {s s' : Sns} (w : World) (hU : Jb w u c len took L s) (hV : Jb w v c' len' took' L' s') :
    Calls Tryz.prog 48 #[u, v] w fun e w' => e = .returned (.bool (c == c' && (len == len' && (took == took' && (L == L' && s == s'))))) ∧ Later w w' := by
  obtain ⟨ar, cr, rfl, hb⟩ := hU
  obtain ⟨ar', cr', rfl, hb'⟩ := hV
  have HB := hide hb
  have HB' := hide hb'
  clear hb hb'
  obtain ⟨k, hk⟩ : ∃ k, k = L.length := ⟨_, rfl⟩
  obtain ⟨k', hk'⟩ : ∃ k', k' = L'.length := ⟨_, rfl⟩
  rw [← hk] at HB ⊢
  rw [← hk'] at HB' ⊢
  clear hk hk'
  have BX := hide ((Box.new w 42 (jc c len took ar k cr s).toArray).alloc (.cells (jc c' len' took' ar' k' cr' s').toArray 42))
  have BY : Hid (Box _ (w.heap.size + 1) 42 (jc c' len' took' ar' k' cr' s')) := Box.new' (w.alloc (.cells (jc c len took ar k cr s).toArray 42)) 42 (jc c' len' took' ar' k' cr' s').toArray _ rfl _ (by simp)
  have LL := hide (((Later.refl w).alloc (.cells (jc c len took ar k cr s).toArray 42)).alloc (.cells (jc c' len' took' ar' k' cr' s').toArray 42))
  have g1 := (HB.out.later LL.out).strOf
  have g2 := (HB'.out.later LL.out).strOf
  have x_0 := BX.out.cell 0
  have x_1 := BX.out.cell 1
  have x_2 := BX.out.cell 2
  have x_3 := BX.out.cell 3
  have x_4 := BX.out.cell 4
  have x_5 := BX.out.cell 5
  have x_6 := BX.out.cell 6
  have x_7 := BX.out.cell 7
  have x_8 := BX.out.cell 8
  have x_9 := BX.out.cell 9
  have x_10 := BX.out.cell 10
  have y_0 := BY.out.cell 0
  have y_1 := BY.out.cell 1
  have y_2 := BY.out.cell 2
  have y_3 := BY.out.cell 3
  have y_4 := BY.out.cell 4
  have y_5 := BY.out.cell 5
  have y_6 := BY.out.cell 6
  have y_7 := BY.out.cell 7
  have y_8 := BY.out.cell 8
  have y_9 := BY.out.cell 9
  have y_10 := BY.out.cell 10
  go_enter Tryz.func48, Tryz.ntmps48
  cases hc : (c == c') with
  | false =>
    go_wp2_with (refine wpList_eqC (by kernel_rfl) (.tmp 6) (.tmp 8) rfl c c' rfl rfl false hc ?_)
    go_ret
    exact ⟨rfl, LL.out⟩
  | true =>
  have HC := hide hc
  cases hl : (len == len') with
  | false =>
    go_wp2_with (refine wpList_eqC (by kernel_rfl) (.tmp 6) (.tmp 8) rfl c c' rfl rfl true HC.out ?_)
    go_ret
    exact ⟨rfl, LL.out⟩
  | true =>
  cases ht : (took == took') with
  | false =>
    go_wp2_with (refine wpList_eqC (by kernel_rfl) (.tmp 6) (.tmp 8) rfl c c' rfl rfl true HC.out ?_)
    go_ret
    exact ⟨rfl, LL.out⟩
  | true =>
  have hLL := strOf_beq8 L L'
  cases hL : (L == L') with
  | false =>
    rw [hL] at hLL
    go_wp2_with (refine wpList_eqC (by kernel_rfl) (.tmp 6) (.tmp 8) rfl c c' rfl rfl true HC.out ?_)
    go_ret
    exact ⟨rfl, LL.out⟩
  | true =>
    rw [hL] at hLL
    have HS := hide (show (s == s') = (s == s') from rfl)
    go_wp2_with (first | refine wpList_eqC (by kernel_rfl) (.tmp 6) (.tmp 8) rfl c c' rfl rfl true HC.out ?_ | refine wpList_eqS9 (by kernel_rfl) (.tmp 35) (.tmp 37) rfl s s' rfl rfl (s == s') rfl ?_)
    go_ret
    exact ⟨rfl, LL.out⟩
end Go.Proofs.YtfakboehmcimpaaGreat
