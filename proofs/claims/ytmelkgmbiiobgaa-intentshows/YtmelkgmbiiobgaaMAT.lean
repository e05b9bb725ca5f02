import Derived.Test.YtmelkgmbiiobgaaMAR
import Derived.Test.YtmelkgmbiiobgaaMAS
import Derived.Test.YtmelkgmbiiobgaaMAI
import Derived.Test.YtmelkgmbiiobgaaMAC
namespace Go.Proofs.Ytmelkgmbiiobgaa
open Go.ChangeShapes Go.WideShapes Go.ChangeAt Go.RowKit
set_option linter.unusedVariables false
set_option maxRecDepth 4000
set_option linter.unusedSimpArgs false
/-! The landed intent: out, howMany. -/
set_option maxRecDepth 20000 in
set_option maxHeartbeats 2000000 in
theorem iout11 (c : Cmd) (s : Sns) (w : World) (hc : OkC7 c) (hs : OkS s) : Calls Try.prog 31 #[cval c, sval s] w fun e w' => ∃ i', e = .returned i' ∧ Later w w' ∧ IV w' i' (outI c s) := by
  have HC := hide hc
  have HS := hide hs
  clear hc hs
  have BC := hide (((Box.new w 36 #[.int .i64 c.1, .int .u64 (c.2.1 : Int), .int .i64 c.2.2.1, .int .i64 c.2.2.2.1, .int .i64 c.2.2.2.2]).alloc (.cells #[.int .i64 s.1, .int .i64 s.2.1, .int .i64 s.2.2] 30)).alloc (.cells zI.toArray 43))
  have BX : Hid (Box _ (w.heap.size + 1) 30 (sc s)) := (Box.new' (w.alloc (.cells #[.int .i64 c.1, .int .u64 (c.2.1 : Int), .int .i64 c.2.2.1, .int .i64 c.2.2.2.1, .int .i64 c.2.2.2.2] 36)) 30 #[.int .i64 s.1, .int .i64 s.2.1, .int .i64 s.2.2] _ rfl _ (by simp)).alloc (.cells zI.toArray 43)
  have BI : Hid (Box _ (w.heap.size + 1 + 1) 43 zI) := Box.new' ((w.alloc (.cells #[.int .i64 c.1, .int .u64 (c.2.1 : Int), .int .i64 c.2.2.1, .int .i64 c.2.2.2.1, .int .i64 c.2.2.2.2] 36)).alloc (.cells #[.int .i64 s.1, .int .i64 s.2.1, .int .i64 s.2.2] 30)) 43 zI.toArray _ rfl _ (by simp)
  have LL := hide ((((Later.refl w).alloc (.cells #[.int .i64 c.1, .int .u64 (c.2.1 : Int), .int .i64 c.2.2.1, .int .i64 c.2.2.2.1, .int .i64 c.2.2.2.2] 36)).alloc (.cells #[.int .i64 s.1, .int .i64 s.2.1, .int .i64 s.2.2] 30)).alloc (.cells zI.toArray 43))
  have y0 := BC.out.cell 0
  have y1 := BC.out.cell 1
  have y2 := BC.out.cell 2
  have y3 := BC.out.cell 3
  have y4 := BC.out.cell 4
  go_enter Try.func31, Try.ntmps31
  go_wp2_with fail
  generalize ((w.alloc (.cells #[.int .i64 c.1, .int .u64 (c.2.1 : Int), .int .i64 c.2.2.1, .int .i64 c.2.2.2.1, .int .i64 c.2.2.2.2] 36)).alloc (.cells #[.int .i64 s.1, .int .i64 s.2.1, .int .i64 s.2.2] 30)).alloc (.cells zI.toArray 43) = w1 at *
  obtain ⟨gx, hgx⟩ : ∃ gx, gx = w.heap.size + 1 := ⟨_, rfl⟩
  obtain ⟨gr, hgr⟩ : ∃ gr, gr = w.heap.size + 1 + 1 := ⟨_, rfl⟩
  rw [← hgr] at BI ⊢
  rw [← hgx] at BX ⊢
  have HG : Hid (w.heap.size ≤ gr) := by rw [Hid]; omega
  clear hgr hgx y0 y1 y2 y3 y4 BC
  refine (jstart_c c w1 HC.out).mono ?_
  rintro e w2 ⟨rfl, hl⟩
  replace BX := hide (BX.out.later hl)
  replace BI := hide (BI.out.later hl)
  replace LL := hide (LL.out.trans hl)
  clear hl HC
  cases hst : startL c with
  | none =>
    have HJ : startJ c = (jval (0, 0, 0, 0, 0) 0 0 none 0 0 (0, 0, 0), false) := by rw [startJ, hst]
    have HR : Hid (outI c s = noneI s) := by rw [Hid, outI, hst]
    rw [HJ]
    clear HJ hst
    go_wp2_with (refine wpList_newJ rfl rfl rfl 5 rfl (by simp) (.tmp 10) (by simp) rfl (0, 0, 0, 0, 0) 0 0 none 0 0 (0, 0, 0) rfl ?_)
    intro g5 w3 hB hl hg
    replace BX := hide (BX.out.later hl)
    replace BI := hide (BI.out.later hl)
    replace LL := hide (LL.out.trans hl)
    clear hl hB hg
    have x0 := BX.out.cell 0
    have x1 := BX.out.cell 1
    have x2 := BX.out.cell 2
    go_wp2_with fail
    refine (inone11_c s _).mono ?_
    rintro e w5 ⟨rfl, hl⟩
    replace BI := hide (BI.out.later hl)
    replace LL := hide (LL.out.trans hl)
    clear hl x0 x1 x2
    go_wp2_with (refine wpList_storeU rfl 43 (.tmp 4) (.tmp 20) rfl gr 0 rfl (ic 0 0 none 0 0 (0, 0, 0, 0, 0) 0 0 none 0 0 (0, 0, 0) s) rfl Try.info_intent (ic_one _ _ _ _ _ _ _ _ _ _ _ _ _) _ _ BI.out (by simp) ?_)
    intro wz hz
    have BZ : Hid (Box wz gr 43 (ic 0 0 none 0 0 (0, 0, 0, 0, 0) 0 0 none 0 0 (0, 0, 0) s)) := by rw [hz.out]; exact BI.out.all _ rfl
    have LZ : Hid (Later w wz) := by rw [hz.out]; exact LL.out.setCells HG.out _ _
    clear hz
    go_wp2
    refine bodyPost_ret (results_cell1 rfl _ _ _ gr 0 rfl (.agg (ic 0 0 none 0 0 (0, 0, 0, 0, 0) 0 0 none 0 0 (0, 0, 0) s).toArray) (load_intent BZ.out rfl)) rfl ⟨_, rfl, LZ.out, ?_⟩
    rw [HR.out]
    exact IV.nil11 _ s
  | some z =>
    have HJ : startJ c = (jval c z 0 none 0 0 (0, 0, 0), true) := by rw [startJ, hst]
    have HR0 : Hid (outI c s = if s = (0, 0, 0) then (2, z, [], c, z, (0, 0, 0)) else noneI s) := by rw [Hid, outI, hst]
    rw [HJ]
    clear HJ hst
    go_wp2_with (refine wpList_newJ rfl rfl rfl 5 rfl (by simp) (.tmp 10) (by simp) rfl c z 0 none 0 0 (0, 0, 0) rfl ?_)
    intro g5 w3 hB hl hg
    have B5 := hide hB
    replace BX := hide (BX.out.later hl)
    replace BI := hide (BI.out.later hl)
    replace LL := hide (LL.out.trans hl)
    clear hl hB hg
    have x0 := BX.out.cell 0
    have x1 := BX.out.cell 1
    have x2 := BX.out.cell 2
    go_wp2_with fail
    refine (sgood_c s _ HS.out).mono ?_
    rintro e w4 ⟨rfl, hl⟩
    replace BX := hide (BX.out.later hl)
    replace BI := hide (BI.out.later hl)
    replace LL := hide (LL.out.trans hl)
    replace B5 := hide (B5.out.later hl)
    clear hl x0 x1 x2
    by_cases hz : s = (0, 0, 0)
    · have HR : Hid (outI c s = (2, z, [], c, z, (0, 0, 0))) := by rw [Hid, HR0.out, if_pos hz]
      have es : (s == (0, 0, 0)) = true := by simp [hz]
      rw [es]
      clear hz es HR0
      have y_0 := B5.out.cell 0
      have y_1 := B5.out.cell 1
      have y_2 := B5.out.cell 2
      have y_3 := B5.out.cell 3
      have y_4 := B5.out.cell 4
      have y_5 := B5.out.cell 5
      have y_6 := B5.out.cell 6
      have y_7 := B5.out.cell 7
      have y_8 := B5.out.cell 8
      have y_9 := B5.out.cell 9
      have y_10 := B5.out.cell 10
      go_wp2_with (refine wpList_storeU rfl 43 (.tmp 4) (.tmp 24) rfl gr 0 rfl (ic 2 z none 0 0 c z 0 none 0 0 (0, 0, 0) (0, 0, 0)) rfl Try.info_intent (ic_one _ _ _ _ _ _ _ _ _ _ _ _ _) _ _ BI.out (by simp) ?_)
      intro wz hz
      have BZ : Hid (Box wz gr 43 (ic 2 z none 0 0 c z 0 none 0 0 (0, 0, 0) (0, 0, 0))) := by rw [hz.out]; exact BI.out.all _ rfl
      have LZ : Hid (Later w wz) := by rw [hz.out]; exact LL.out.setCells HG.out _ _
      clear hz
      go_wp2
      refine bodyPost_ret (results_cell1 rfl _ _ _ gr 0 rfl (.agg (ic 2 z none 0 0 c z 0 none 0 0 (0, 0, 0) (0, 0, 0)).toArray) (load_intent BZ.out rfl)) rfl ⟨_, rfl, LZ.out, ?_⟩
      rw [HR.out]
      exact ⟨none, 0, none, 0, rfl, Bs.nil wz⟩
    · have HR : Hid (outI c s = noneI s) := by rw [Hid, HR0.out, if_neg hz]
      have es : (s == (0, 0, 0)) = false := by simpa using hz
      rw [es]
      clear hz es HR0
      have x0 := BX.out.cell 0
      have x1 := BX.out.cell 1
      have x2 := BX.out.cell 2
      go_wp2_with fail
      refine (inone11_c s _).mono ?_
      rintro e w5 ⟨rfl, hl⟩
      replace BI := hide (BI.out.later hl)
      replace LL := hide (LL.out.trans hl)
      clear hl x0 x1 x2
      go_wp2_with (refine wpList_storeU rfl 43 (.tmp 4) (.tmp 20) rfl gr 0 rfl (ic 0 0 none 0 0 (0, 0, 0, 0, 0) 0 0 none 0 0 (0, 0, 0) s) rfl Try.info_intent (ic_one _ _ _ _ _ _ _ _ _ _ _ _ _) _ _ BI.out (by simp) ?_)
      intro wz hz
      have BZ : Hid (Box wz gr 43 (ic 0 0 none 0 0 (0, 0, 0, 0, 0) 0 0 none 0 0 (0, 0, 0) s)) := by rw [hz.out]; exact BI.out.all _ rfl
      have LZ : Hid (Later w wz) := by rw [hz.out]; exact LL.out.setCells HG.out _ _
      clear hz
      go_wp2
      refine bodyPost_ret (results_cell1 rfl _ _ _ gr 0 rfl (.agg (ic 0 0 none 0 0 (0, 0, 0, 0, 0) 0 0 none 0 0 (0, 0, 0) s).toArray) (load_intent BZ.out rfl)) rfl ⟨_, rfl, LZ.out, ?_⟩
      rw [HR.out]
      exact IV.nil11 _ s
/-! howMany. -/
def manyI (n : Nat) (D : List Drt) (c : Cmd) : List UInt8 := if c.1 = 37 then tenL (allN n D : Int) else cutL (sixL (allN n D : Int)) c.2.2.1
set_option maxHeartbeats 2000000 in
theorem howmany11_c {v : Value} {n : Nat} {F : List UInt8} {D : List Drt} {p r l : Bool} (c : Cmd) (w : World) (h : Slt w v n F D p r l) (hc : OkC7 c) : Calls Try.prog 34 #[v, cval c] w fun e w' => ∃ v', e = .returned v' ∧ Later w w' ∧ Bs w' v' (manyI n D c) := by
  obtain ⟨ab, cb, aD, k, cD, rfl, hm⟩ := h
  have HR : Hid (manyI n D c = if c.1 = 37 then tenL (allN n D : Int) else cutL (sixL (allN n D : Int)) c.2.2.1) := rfl
  generalize manyI n D c = R at *
  have HN := hide (allN_small n D)
  obtain ⟨op, at_, nn, pg, bt⟩ := c
  have hnn : In64 nn := hc.2.2.1
  have HI := hide hnn
  clear hc hnn
  have HM := hide hm
  clear hm
  have BX := hide ((Box.new w 27 #[.slice ab n cb, .slice aD k cD, .bool p, .bool r, .bool l]).alloc (.cells #[.int .i64 op, .int .u64 (at_ : Int), .int .i64 nn, .int .i64 pg, .int .i64 bt] 36))
  have BC : Hid (Box _ (w.heap.size + 1) 36 (cc (op, at_, nn, pg, bt))) := Box.new' (w.alloc (.cells #[.slice ab n cb, .slice aD k cD, .bool p, .bool r, .bool l] 27)) 36 #[.int .i64 op, .int .u64 (at_ : Int), .int .i64 nn, .int .i64 pg, .int .i64 bt] _ rfl _ (by simp)
  have LL := hide (((Later.refl w).alloc (.cells #[.slice ab n cb, .slice aD k cD, .bool p, .bool r, .bool l] 27)).alloc (.cells #[.int .i64 op, .int .u64 (at_ : Int), .int .i64 nn, .int .i64 pg, .int .i64 bt] 36))
  have x0 := BX.out.cell 0
  have x1 := BX.out.cell 1
  go_enter Try.func34, Try.ntmps34
  go_wp2_with fail
  refine (call3_c _ n F D _ (HM.out.later LL.out)).mono ?_
  rintro e w2 ⟨v2, rfl, hl, hr⟩
  obtain ⟨a2, c2, rfl⟩ := hr.shape
  replace BC := hide (BC.out.later hl)
  replace LL := hide (LL.out.trans hl)
  clear hl hr x0 x1 BX HM
  generalize allN n D = N at *
  have hN : (N : Int) ≤ 9223372036854775807 := by have := HN.out; omega
  have y0 := BC.out.cell 0
  have y2 := BC.out.cell 2
  by_cases h : op = 37
  · have e37 : (op == 37) = true := by simp [h]
    replace HR : Hid (R = tenL (N : Int)) := by rw [Hid, HR.out, if_pos h]
    clear h
    go_wp2_with fail
    refine (ten9_c (N : Int) _).mono ?_
    rintro e w3 ⟨v3, rfl, hl, hb⟩
    replace LL := hide (LL.out.trans hl)
    have HB := hide hb
    clear hl hb
    go_wp2
    go_ret
    exact ⟨_, rfl, LL.out, by rw [HR.out]; exact HB.out⟩
  · have e37 : (op == 37) = false := by simp [h]
    replace HR : Hid (R = cutL (sixL (N : Int)) nn) := by rw [Hid, HR.out, if_neg h]
    clear h
    go_wp2_with fail
    refine (six9_c (N : Int) nn HI.out _).mono ?_
    rintro e w3 ⟨v3, rfl, hl, hb⟩
    replace LL := hide (LL.out.trans hl)
    have HB := hide hb
    clear hl hb
    go_wp2
    go_ret
    exact ⟨_, rfl, LL.out, by rw [HR.out]; exact HB.out⟩
/-! How long. -/
theorem len_ans (c : Cmd) (lun luns : Int) : (ansR c lun luns).1.length ≤ 1000000 := by
  unfold ansR
  split
  · simp
  · split
    · exact Nat.le_trans (cutL_len8 _ _).1 (by rw [stdL_len]; omega)
    · exact Nat.le_trans (cutL_len8 _ _).1 (Nat.le_trans (pageL_len _ _ _) (by omega))
theorem len_mans (c : Cmd) (a b : Bool) : (mansR c a b).1.length ≤ 1000000 := by
  obtain ⟨op, at_, n, pg, bt⟩ := c
  obtain ⟨B, s, h1, h2, _⟩ := mans_cut op at_ n pg bt a b
  rw [h2]
  have := (cutL_len8 B n).1
  simp only
  omega
theorem len_many (n : Nat) (D : List Drt) (c : Cmd) : (manyI n D c).length ≤ 1000000 := by
  have h8 : ∀ z : Int, (tenL z).length ≤ 100 := fun z => by simp [tenL, putBeI4_len, sz64]
  have h9 : ∀ z : Int, (sixL z).length ≤ 100 := fun z => by simp [sixL, putBeI8_len, sz64, zs]
  unfold manyI
  split
  · exact Nat.le_trans (h8 _) (by omega)
  · exact Nat.le_trans (cutL_len8 _ _).1 (Nat.le_trans (h9 _) (by omega))
theorem len_luns (k n : Int) : (cutL (lunsL (cntN k)) n).length ≤ 1000000 := by
  have h : cntN k ≤ 4 := by unfold cntN; split <;> (try split) <;> omega
  have := (cutL_len8 (lunsL (cntN k)) n).1
  rw [lunsL_len] at this
  omega
theorem len_rd (n : Nat) (F : List UInt8) (D : List Drt) (p r : Bool) (at_ : Nat) (m : Int) : (rdL n F D (checkS n D p r at_ m false) at_ m).length ≤ 1000000 := by
  unfold rdL
  by_cases h : checkS n D p r at_ m false = (0, 0, 0)
  · have h1 := (checkS_zero h).2.2
    simp only [withinB, decide_eq_true_eq] at h1
    have h2 := allN_small n D
    rw [if_pos (by simp [h])]
    unfold seg
    rw [List.length_take]
    omega
  · rw [if_neg (by simpa using h)]
    simp
end Go.Proofs.Ytmelkgmbiiobgaa

namespace Go.Proofs.Ytmelkgmbiiobgaa
open Go.ChangeShapes Go.WideShapes Go.ChangeAt Go.RowKit
set_option linter.unusedVariables false
set_option maxRecDepth 4000
set_option linter.unusedSimpArgs false
/-! The landed slot: own. -/
/-- all that it holds lies in new memory -/
def Fresh (B : Nat) (v : Value) : Prop := ∀ g, g < B → OffT g v
theorem Fresh.mono {B B' : Nat} {v : Value} (h : Fresh B v) (hb : B' ≤ B) : Fresh B' v := fun g hg => h g (by omega)
set_option maxRecDepth 20000 in
set_option maxHeartbeats 1000000 in
theorem sown_c {v : Value} {n : Nat} {F : List UInt8} {D : List Drt} {p r l : Bool} (w : World) (h : Slt w v n F D p r l) (hn : n ≤ 100) (hD : D.length ≤ 100) :
    Calls Try.prog 88 #[v] w fun e w' => ∃ v', e = .returned v' ∧ Later w w' ∧ Slt w' v' n F D p r l ∧ Fresh w.heap.size v' := by
  obtain ⟨ab, cb, aD, k, cD, rfl, hm⟩ := h
  obtain ⟨vb, vd, e, hb, hd, hok⟩ := hm
  simp at e
  obtain ⟨rfl, rfl⟩ := e
  obtain rfl : k = D.length := by
    obtain ⟨a', c', e'⟩ := hd.shape
    simp at e'
    exact e'.2.1
  have HB := hide hb
  obtain ⟨k, hk⟩ : ∃ k, k = D.length := ⟨_, rfl⟩
  rw [← hk] at hd hD ⊢
  have HD := hide hd
  have HK := hide hk
  have HO := hide hok
  clear hb hd hok hk
  have BX : Hid (Box ((w.alloc (.cells #[.slice ab n cb, .slice aD k cD, .bool p, .bool r, .bool l] 27)).alloc (.cells #[.slice none 0 0, .slice none 0 0, .bool false, .bool false, .bool false] 27)) w.heap.size 27 (tc (.slice ab n cb) (.slice aD k cD) p r l)) := (Box.new w 27 #[.slice ab n cb, .slice aD k cD, .bool p, .bool r, .bool l]).alloc _
  have BR : Hid (Box ((w.alloc (.cells #[.slice ab n cb, .slice aD k cD, .bool p, .bool r, .bool l] 27)).alloc (.cells #[.slice none 0 0, .slice none 0 0, .bool false, .bool false, .bool false] 27)) (w.heap.size + 1) 27 (tc (.slice none 0 0) (.slice none 0 0) false false false)) := Box.new' _ _ _ _ rfl _ (by simp)
  have L := hide (((Later.refl w).alloc (.cells #[.slice ab n cb, .slice aD k cD, .bool p, .bool r, .bool l] 27)).alloc (.cells #[.slice none 0 0, .slice none 0 0, .bool false, .bool false, .bool false] 27))
  go_enter Try.func88, Try.ntmps88
  go_wp2_with fail
  generalize ((w.alloc (.cells #[.slice ab n cb, .slice aD k cD, .bool p, .bool r, .bool l] 27)).alloc (.cells #[.slice none 0 0, .slice none 0 0, .bool false, .bool false, .bool false] 27)) = w1 at *
  have hc := fun r => ((Later.refl w1).drew.trans (later_rg w1.drew r))
  have hc0 := fun r => (BX.out.later (hc r)).cell 0
  have hc1 := fun r => (BX.out.later (hc r)).cell 1
  refine wp_region_tree [0, 1, 2, 4, 5, 6] [3, 7] [8, 9, 10] (by kernel_rfl) (by kernel_rfl) (by kernel_rfl) (by kernel_rfl) ?_
  iterate 6 (refine wpT_mild rfl (fun K hK => ?_); go_simp; refine hK _ ?_; clear hK K)
  clear hc0 hc1 hc
  refine wpT_bag (fun i => match i with | 7 => [3] | _ => []) (fun i vals W => match i with
    | 3 => W.ownsRow w.heap.size 50 64 (vals 3) n (bv F)
    | 7 => W.ownsRow w.heap.size 53 65 (vals 7) k (dv D)
    | _ => True) (by kernel_rfl) ?b1 ?b2 ?b3 ?b4
  case b1 =>
    intro i hi vals W W' hl h
    simp only [List.mem_cons, List.not_mem_nil, or_false] at hi
    rcases hi with rfl | rfl
    · exact owns_later h hl
    · exact owns_later h hl
  case b2 =>
    intro i hi k hk hne hds vals v W h
    simp only [List.mem_cons, List.not_mem_nil, or_false] at hi hk
    rcases hi with rfl | rfl <;> rcases hk with rfl | rfl <;> first | (exact absurd rfl hne) | (simpa [upd] using h) | (simp at hds)
  case b3 =>
    intro i hi vals W hl hdep
    have L1W := (Later.refl w1).drew.trans hl
    have LW := hide (L.out.trans L1W)
    simp only [List.mem_cons, List.not_mem_nil, or_false] at hi
    rcases hi with rfl | rfl
    · refine lVal_step rfl (fun K hK => ?_)
      simp only [putAll, List.foldl]
      go_simp
      refine (clone64_c W (HB.out.later LW.out) (by omega)).mono ?_
      rintro e w3 ⟨v3, rfl, hl3, ho3⟩
      exact ⟨v3, rfl, hl3, hK _ _ (by simpa [upd] using owns_rebase ho3 LW.out.size)⟩
    · refine lVal_step rfl (fun K hK => ?_)
      simp only [putAll, List.foldl]
      go_simp
      refine (clone65_c W (HD.out.later LW.out) (by omega)).mono ?_
      rintro e w3 ⟨v3, rfl, hl3, ho3⟩
      exact ⟨v3, rfl, hl3, hK _ _ (by simpa [upd] using owns_rebase ho3 LW.out.size)⟩
  case b4 =>
    intro vals w7 hl hall
    have hw7 := (Later.refl w1).drew.trans hl
    have h3 : w7.ownsRow w.heap.size 50 64 (vals 3) n (bv F) := hall 3 (by simp)
    have h7 : w7.ownsRow w.heap.size 53 65 (vals 7) k (dv D) := hall 7 (by simp)
    generalize hv3 : vals 3 = v3 at *
    generalize hv7 : vals 7 = v7 at *
    have FR : Hid (Fresh w.heap.size (.agg #[v3, v7, .bool p, .bool r, .bool l])) := fun g hg => ⟨_, _, _, _, _, rfl, owns_off h3 hg, owns_off h7 hg⟩
    have M : Hid (Med w7 (.agg #[v3, v7]) n F D) := ⟨_, _, rfl, Rw.of_owns h3, by rw [← HK.out]; exact Rw.of_owns h7, HO.out⟩
    obtain ⟨a3, c3, rfl⟩ := (Rw.of_owns h3).shape
    obtain ⟨a6, c6, rfl⟩ := (Rw.of_owns h7).shape
    replace BX := hide (BX.out.later hw7)
    replace BR := hide (BR.out.later hw7)
    replace L := hide (L.out.later hw7)
    clear h3 h7 hall hl hw7
    refine wpL_cons rfl (fun K hK => ?_)
    simp only [putAll, List.foldl, dstOf, hv3, hv7]
    go_simp
    refine hK _ _ ?_
    clear hK K
    refine wpL_cons rfl (fun K hK => ?_)
    go_simp
    refine hK _ _ ?_
    clear hK K
    refine wpL_store rfl (by kernel_rfl) 25 (.tmp 12) (.tmp 11) rfl w.heap.size 0 [.slice a3 n c3, .slice a6 k c6] rfl rfl (BX.out.there 0 2 (by simp)) (zero_of_info Try.zero_medium).2 (by simp [Value.oneCell']) (wpL_nil ?_)
    obtain ⟨w8, hw8⟩ : ∃ w8, Hid (w8 = w7.setCells w.heap.size 0 [.slice a3 n c3, .slice a6 k c6]) := ⟨_, rfl⟩
    rw [← hw8.out]
    have T := hide (tri_set (Nat.le_refl _) (by omega) BX.out (tc_noints _ _ _ _ _ _ _ _ _) BR.out L.out M.out [.slice a3 n c3, .slice a6 k c6] 0 (by simp))
    rw [← hw8.out] at T
    clear BX BR L M hw8
    have BX : Hid (Box w8 w.heap.size 27 (tc (.slice a3 n c3) (.slice a6 k c6) p r l)) := T.out.1
    have BR := hide T.out.2.1
    have L := hide T.out.2.2.1
    have M := hide T.out.2.2.2
    clear T
    have HE := hide (slot_set (p := p) (r := r) (l := l) (by omega) BR.out (tc_noints _ _ _ _ _ _ _ _ _) rfl L.out M.out)
    have d0 := BX.out.cell 0
    have d1 := BX.out.cell 1
    have d2 := BX.out.cell 2
    have d3 := BX.out.cell 3
    have d4 := BX.out.cell 4
    go_wp2_with (refine wpList_storeT rfl 27 (.tmp 2) (.tmp 13) rfl (w.heap.size + 1) 0 rfl (tc (.slice a3 n c3) (.slice a6 k c6) p r l) rfl Try.info_slot (tc_one _ _ _ _ _ _ _ _ _) _ _ BR.out (by simp) ?_)
    intro wz hwz
    rw [← hwz.out] at HE
    clear BX BR L M d0 d1 d2 d3 d4 hwz
    go_wp2
    refine bodyPost_ret (results_cell1 rfl _ _ _ (w.heap.size + 1) 0 rfl (.agg #[.slice a3 n c3, .slice a6 k c6, .bool p, .bool r, .bool l]) (shut5 HE.out.1 rfl)) rfl ⟨_, rfl, HE.out.2.1, ?_, FR.out⟩
    exact Slt.mk' _ _ _ HE.out.2.2
end Go.Proofs.Ytmelkgmbiiobgaa

namespace Go.Proofs.Ytmelkgmbiiobgaa
open Go.ChangeShapes Go.WideShapes Go.ChangeAt Go.RowKit
set_option linter.unusedVariables false
set_option maxRecDepth 4000
set_option linter.unusedSimpArgs false
/-! The landed slot: with, Sync. -/
set_option maxRecDepth 20000 in
set_option maxHeartbeats 1000000 in
theorem swith_yes {v u : Value} {n m : Nat} {F G : List UInt8} {D E : List Drt} {p r l : Bool} (w : World) (h : Slt w v n F D p r l) (hu : Med w u m G E) :
    Calls Try.prog 90 #[v, u, .int .i64 0] w fun e w' => ∃ v', e = .returned v' ∧ Later w w' ∧ Slt w' v' m G E p r l ∧ ∀ g, OffM g u → OffT g v' := by
  obtain ⟨ab, cb, aD, k, cD, rfl, _⟩ := h
  have HU := hide hu
  obtain ⟨a3, c3, a6, k6, c6, rfl, _, _, _⟩ := hu.shape
  clear hu
  go_enter Try.func90, Try.ntmps90
  go_wp2
  refine bodyPost_ret (results_cell1 rfl _ _ _ (w.heap.size + 1 + 1) 0 rfl (.agg #[.slice a3 m c3, .slice a6 k6 c6, .bool p, .bool r, .bool l]) (shut5 (cs := tc (.slice a3 m c3) (.slice a6 k6 c6) p r l) (Box.new' _ _ _ _ rfl _ (by simp)) rfl)) rfl ⟨_, rfl, (((Later.refl w).alloc _).alloc _).alloc _, Slt.mk' _ _ _ (HU.out.later ((((Later.refl w).alloc _).alloc _).alloc _)), fun g ⟨a, b, e, h1, h2⟩ => ?_⟩
  simp at e
  obtain ⟨rfl, rfl⟩ := e
  exact ⟨_, _, _, _, _, rfl, h1, h2⟩
set_option maxRecDepth 20000 in
set_option maxHeartbeats 1000000 in
theorem swith_no {v u : Value} {n m : Nat} {F G : List UInt8} {D E : List Drt} {p r l : Bool} (ee : Int) (w : World) (h : Slt w v n F D p r l) (hu : Med w u m G E) (he : ee ≠ 0) (hn : n ≤ 100) (hD : D.length ≤ 100) :
    Calls Try.prog 90 #[v, u, .int .i64 ee] w fun e w' => ∃ v', e = .returned v' ∧ Later w w' ∧ Slt w' v' n F D p r l ∧ Fresh w.heap.size v' := by
  have HS := hide h
  obtain ⟨ab, cb, aD, k, cD, rfl, _⟩ := h
  obtain ⟨a3, c3, a6, k6, c6, rfl, _, _, _⟩ := hu.shape
  have hne : (ee != 0) = true := by simpa using he
  have HDl := hide hD
  clear hu hD
  go_enter Try.func90, Try.ntmps90
  go_wp2_with fail
  refine (sown_c _ (HS.out.later ((((Later.refl w).alloc _).alloc _).alloc _)) hn HDl.out).mono ?_
  rintro e w2 ⟨v2, rfl, hl, h2, hf⟩
  have BR : Hid (Box w2 (w.heap.size + 1 + 1) 27 (tc (.slice none 0 0) (.slice none 0 0) false false false)) := Box.later (Box.new' _ _ _ _ rfl _ (by simp)) hl
  have L : Hid (Later w w2) := Later.trans ((((Later.refl w).alloc _).alloc _).alloc _) hl
  have FR : Hid (Fresh w.heap.size v2) := hf.mono (by simp; omega)
  obtain ⟨b3, d3, b6, j6, d6, rfl, hm2⟩ := h2
  have M := hide hm2
  clear hl hf hm2
  have HE := hide (slot_set (p := p) (r := r) (l := l) (by omega) BR.out (tc_noints _ _ _ _ _ _ _ _ _) rfl L.out M.out)
  go_wp2_with (refine wpList_storeT rfl 27 (.tmp 6) (.tmp 10) rfl (w.heap.size + 1 + 1) 0 rfl (tc (.slice b3 n d3) (.slice b6 j6 d6) p r l) rfl Try.info_slot (tc_one _ _ _ _ _ _ _ _ _) _ _ BR.out (by simp) ?_)
  intro wz hwz
  rw [← hwz.out] at HE
  clear hwz BR L M
  go_wp2
  exact bodyPost_ret (results_cell1 rfl _ _ _ (w.heap.size + 1 + 1) 0 rfl (.agg #[.slice b3 n d3, .slice b6 j6 d6, .bool p, .bool r, .bool l]) (shut5 HE.out.1 rfl)) rfl ⟨_, rfl, HE.out.2.1, Slt.mk' _ _ _ HE.out.2.2, FR.out⟩
theorem flush_no {n : Nat} {D : List Drt} (h : rightB n D = false) (a m : Int) : flushE n D a m = 1 := by simp [flushE, h]
set_option maxRecDepth 20000 in
set_option maxHeartbeats 1000000 in
theorem ssync_x {v : Value} {n : Nat} {F : List UInt8} {D : List Drt} {p r l : Bool} (w : World) (h : Slt w v n F D p r l) (hn : n ≤ 100) (hD : D.length ≤ 100) :
    Calls Try.prog 64 #[v] w fun e w' => ∃ v', e = .returned v' ∧ Later w w' ∧ Slt w' v' n (syncF n F D) (syncD n D) p r l ∧ Fresh w.heap.size v' := by
  have HDl := hide hD
  clear hD
  have HS := hide h
  obtain ⟨ab, cb, aD, k, cD, rfl, hm⟩ := h
  have HM := hide hm
  clear hm
  have BX : Hid (Box ((w.alloc (.cells #[.slice ab n cb, .slice aD k cD, .bool p, .bool r, .bool l] 27)).alloc (.cells #[.slice none 0 0, .slice none 0 0, .bool false, .bool false, .bool false] 27)) w.heap.size 27 (tc (.slice ab n cb) (.slice aD k cD) p r l)) := (Box.new w 27 #[.slice ab n cb, .slice aD k cD, .bool p, .bool r, .bool l]).alloc _
  have BR : Hid (Box ((w.alloc (.cells #[.slice ab n cb, .slice aD k cD, .bool p, .bool r, .bool l] 27)).alloc (.cells #[.slice none 0 0, .slice none 0 0, .bool false, .bool false, .bool false] 27)) (w.heap.size + 1) 27 (tc (.slice none 0 0) (.slice none 0 0) false false false)) := Box.new' _ _ _ _ rfl _ (by simp)
  have L := hide (((Later.refl w).alloc (.cells #[.slice ab n cb, .slice aD k cD, .bool p, .bool r, .bool l] 27)).alloc (.cells #[.slice none 0 0, .slice none 0 0, .bool false, .bool false, .bool false] 27))
  go_enter Try.func64, Try.ntmps64
  go_wp2_with fail
  generalize ((w.alloc (.cells #[.slice ab n cb, .slice aD k cD, .bool p, .bool r, .bool l] 27)).alloc (.cells #[.slice none 0 0, .slice none 0 0, .bool false, .bool false, .bool false] 27)) = w1 at *
  refine (cflush3_x _ n F D 0 0 w1 (HM.out.later L.out) (by omega) (by omega) (by omega) (by omega)).mono ?_
  rintro e w2 ⟨v2, rfl, hl, h2, ho2⟩
  have hO2 : Hid (∀ g, g < w.heap.size → OffM g v2) := fun g hg => ho2 g (by have := L.out.size; omega)
  replace BX := hide (BX.out.later hl)
  replace BR := hide (BR.out.later hl)
  replace L := hide (L.out.later hl)
  have M := hide h2
  obtain ⟨a3, c3, a6, k6, c6, rfl, _, _, _⟩ := h2.shape
  clear hl h2 ho2
  cases hR : rightB n D with
  | true =>
    have hF : Hid (syncF n F D = app F D ∧ syncD n D = []) := by simp [Hid, syncF, syncD, hR]
    obtain ⟨hE, hN, hFF, hDD⟩ := flush0 (F := F) hR HM.out.flat.2
    rw [hE]
    rw [hN, hFF, hDD] at M
    generalize flushN n D 0 0 = nn at *
    have hN' := hN.symm
    subst hN'
    clear hE hN hFF hDD
    go_wp2_with (refine wpList_newM rfl rfl rfl 3 rfl (by simp) (.tmp 9) (by simp) rfl a3 a6 _ c3 k6 c6 rfl ?_)
    intro g3 w3 hB hl hg
    replace BX := hide (BX.out.later hl)
    replace BR := hide (BR.out.later hl)
    replace L := hide (L.out.later hl)
    replace M := hide (M.out.later hl)
    have B3 := hide hB
    clear hl hB hg
    have d0 := BX.out.cell 0
    have d1 := BX.out.cell 1
    have d2 := BX.out.cell 2
    have d3 := BX.out.cell 3
    have d4 := BX.out.cell 4
    have e0 := B3.out.cell 0
    have e1 := B3.out.cell 1
    go_wp2_with fail
    refine (swith_yes (n := n) (F := F) (D := D) w3 (HS.out.later L.out) M.out).mono ?_
    rintro e w4 ⟨v4, rfl, hl, h4, ho4⟩
    have FR : Hid (Fresh w.heap.size v4) := fun g hg => ho4 g (hO2.out g hg)
    clear M d0 d1 d2 d3 d4 e0 e1
    replace BR := hide (BR.out.later hl)
    replace L := hide (L.out.later hl)
    obtain ⟨b3, f3, b6, j6, f6, rfl, hm4⟩ := h4
    have M := hide hm4
    clear hl hm4 ho4 hO2 BX B3
    have HE := hide (slot_set (p := p) (r := r) (l := l) (by omega) BR.out (tc_noints _ _ _ _ _ _ _ _ _) rfl L.out M.out)
    go_wp2_with (refine wpList_storeT rfl 27 (.tmp 2) (.tmp 14) rfl (w.heap.size + 1) 0 rfl (tc (.slice b3 n f3) (.slice b6 j6 f6) p r l) rfl Try.info_slot (tc_one _ _ _ _ _ _ _ _ _) _ _ BR.out (by simp) ?_)
    intro wz hwz
    rw [← hwz.out] at HE
    clear hwz BR L M
    go_wp2
    refine bodyPost_ret (results_cell1 rfl _ _ _ (w.heap.size + 1) 0 rfl (.agg #[.slice b3 n f3, .slice b6 j6 f6, .bool p, .bool r, .bool l]) (shut5 HE.out.1 rfl)) rfl ⟨_, rfl, HE.out.2.1, ?_, FR.out⟩
    rw [hF.out.1, hF.out.2]
    exact Slt.mk' _ _ _ HE.out.2.2
  | false =>
    have hF : Hid (syncF n F D = F ∧ syncD n D = D) := by simp [Hid, syncF, syncD, hR]
    rw [flush_no hR]
    generalize flushN n D 0 0 = nn at *
    go_wp2_with (refine wpList_newM rfl rfl rfl 3 rfl (by simp) (.tmp 9) (by simp) rfl a3 a6 _ c3 k6 c6 rfl ?_)
    intro g3 w3 hB hl hg
    replace BX := hide (BX.out.later hl)
    replace BR := hide (BR.out.later hl)
    replace L := hide (L.out.later hl)
    replace M := hide (M.out.later hl)
    have B3 := hide hB
    clear hl hB hg
    have d0 := BX.out.cell 0
    have d1 := BX.out.cell 1
    have d2 := BX.out.cell 2
    have d3 := BX.out.cell 3
    have d4 := BX.out.cell 4
    have e0 := B3.out.cell 0
    have e1 := B3.out.cell 1
    go_wp2_with fail
    refine (swith_no (n := n) (F := F) (D := D) 1 w3 (HS.out.later L.out) M.out (by omega) hn HDl.out).mono ?_
    rintro e w4 ⟨v4, rfl, hl, h4, hf4⟩
    have FR : Hid (Fresh w.heap.size v4) := hf4.mono L.out.size
    clear M d0 d1 d2 d3 d4 e0 e1
    replace BR := hide (BR.out.later hl)
    replace L := hide (L.out.later hl)
    obtain ⟨b3, f3, b6, j6, f6, rfl, hm4⟩ := h4
    have M := hide hm4
    clear hl hm4 hf4 hO2 BX B3
    have HE := hide (slot_set (p := p) (r := r) (l := l) (by omega) BR.out (tc_noints _ _ _ _ _ _ _ _ _) rfl L.out M.out)
    go_wp2_with (refine wpList_storeT rfl 27 (.tmp 2) (.tmp 14) rfl (w.heap.size + 1) 0 rfl (tc (.slice b3 n f3) (.slice b6 j6 f6) p r l) rfl Try.info_slot (tc_one _ _ _ _ _ _ _ _ _) _ _ BR.out (by simp) ?_)
    intro wz hwz
    rw [← hwz.out] at HE
    clear hwz BR L M
    go_wp2
    refine bodyPost_ret (results_cell1 rfl _ _ _ (w.heap.size + 1) 0 rfl (.agg #[.slice b3 n f3, .slice b6 j6 f6, .bool p, .bool r, .bool l]) (shut5 HE.out.1 rfl)) rfl ⟨_, rfl, HE.out.2.1, ?_, FR.out⟩
    rw [hF.out.1, hF.out.2]
    exact Slt.mk' _ _ _ HE.out.2.2
theorem ssync_c : ISyncT := fun v n F D p r l w h hn hD => (ssync_x w h hn hD).mono fun e w' ⟨v', h1, h2, h3, _⟩ => ⟨v', h1, h2, h3⟩
end Go.Proofs.Ytmelkgmbiiobgaa

namespace Go.Proofs.Ytmelkgmbiiobgaa
open Go.ChangeShapes Go.WideShapes Go.ChangeAt Go.RowKit
set_option linter.unusedVariables false
set_option maxRecDepth 4000
set_option linter.unusedSimpArgs false
/-! The landed slot: Insert, Switch, Power. -/
theorem box_bool {w : World} {g : Nat} {a b : Value} {p r l : Bool} (h : Box w g 27 (tc a b p r l)) :
    (∀ x, Box (w.setCells g 2 [.bool x]) g 27 (tc a b x r l)) ∧ (∀ x, Box (w.setCells g 3 [.bool x]) g 27 (tc a b p x l)) ∧ (∀ x, Box (w.setCells g 4 [.bool x]) g 27 (tc a b p r x)) :=
  ⟨fun x => h.setCells [.bool x] 2 (by simp), fun x => h.setCells [.bool x] 3 (by simp), fun x => h.setCells [.bool x] 4 (by simp)⟩
theorem Try.info_bool : (Try.prog.info? 4).map (·.size) = some 1 := by kernel_rfl
set_option maxRecDepth 20000 in
set_option maxHeartbeats 1000000 in
theorem sinsert_c : IInsertT := by
  intro v n F D p r l w h hn hD
  have HDl := hide hD
  clear hD
  have HS := hide h
  obtain ⟨ab, cb, aD, k, cD, rfl, hm⟩ := h
  have HM := hide hm
  clear hm
  have BX : Hid (Box ((w.alloc (.cells #[.slice ab n cb, .slice aD k cD, .bool p, .bool r, .bool l] 27)).alloc (.cells #[.slice none 0 0, .slice none 0 0, .bool false, .bool false, .bool false] 27)) w.heap.size 27 (tc (.slice ab n cb) (.slice aD k cD) p r l)) := (Box.new w 27 #[.slice ab n cb, .slice aD k cD, .bool p, .bool r, .bool l]).alloc _
  have BR : Hid (Box ((w.alloc (.cells #[.slice ab n cb, .slice aD k cD, .bool p, .bool r, .bool l] 27)).alloc (.cells #[.slice none 0 0, .slice none 0 0, .bool false, .bool false, .bool false] 27)) (w.heap.size + 1) 27 (tc (.slice none 0 0) (.slice none 0 0) false false false)) := Box.new' _ _ _ _ rfl _ (by simp)
  have L := hide (((Later.refl w).alloc (.cells #[.slice ab n cb, .slice aD k cD, .bool p, .bool r, .bool l] 27)).alloc (.cells #[.slice none 0 0, .slice none 0 0, .bool false, .bool false, .bool false] 27))
  go_enter Try.func85, Try.ntmps85
  go_wp2_with fail
  generalize ((w.alloc (.cells #[.slice ab n cb, .slice aD k cD, .bool p, .bool r, .bool l] 27)).alloc (.cells #[.slice none 0 0, .slice none 0 0, .bool false, .bool false, .bool false] 27)) = w1 at *
  refine (sown_c w1 (HS.out.later L.out) hn HDl.out).mono ?_
  rintro e w2 ⟨v2, rfl, hl, h2, hf⟩
  replace BX := hide (BX.out.later hl)
  replace BR := hide (BR.out.later hl)
  replace L := hide (L.out.later hl)
  obtain ⟨a3, c3, a6, k6, c6, rfl, hm2⟩ := h2
  have M := hide hm2
  clear hl hm2 hf
  go_wp2_with (refine wpList_newT rfl rfl rfl 4 rfl (by simp) (.tmp 6) (by simp) rfl a3 a6 n c3 k6 c6 p r l rfl ?_)
  intro g4 w3 hB hl hg
  have hne : Hid (w.heap.size ≠ g4 ∧ w.heap.size + 1 ≠ g4 ∧ w.heap.size ≤ g4) := by
    have h1 := BX.out.lt
    have h2 := BR.out.lt
    have h3 := hg.out.1
    exact ⟨by omega, by omega, by omega⟩
  replace BX := hide (BX.out.later hl)
  replace BR := hide (BR.out.later hl)
  replace L := hide (L.out.later hl)
  replace M := hide (M.out.later hl)
  have B4 := hide hB
  clear hl hB hg
  go_wp2_with (refine wpList_storeC rfl 4 (.tmp 7) (.const (.bool true)) rfl g4 2 rfl true rfl Try.info_bool _ _ B4.out (by simp) ?_)
  intro w4 hw4
  have B5 := hide ((box_bool B4.out).1 true)
  have BX5 := hide (BX.out.kept (heap_setCells_other w3 g4 w.heap.size hne.out.1 [.bool true] 2))
  have BR5 := hide (BR.out.kept (heap_setCells_other w3 g4 (w.heap.size + 1) hne.out.2.1 [.bool true] 2))
  have L5 := hide (L.out.setCells (g := g4) hne.out.2.2 [.bool true] 2)
  have M5 := hide (M.out.setBox B4.out (tc_noints _ _ _ _ _ _ _ _ _) [.bool true] 2)
  rw [← hw4.out] at B5 BX5 BR5 L5 M5
  clear B4 BX BR L M hw4
  have hDr := hide (Later.refl w4).drew
  go_wp2_with fail
  refine wp_region_bag [0] [1, 2, 3, 4, 5] [4] (by kernel_rfl) (by kernel_rfl) (by kernel_rfl) (by kernel_rfl) ?_
  have hc := fun r => (hDr.out.trans (later_rg _ r))
  have q0 := fun r => (B5.out.later (hc r)).cell 0
  have q1 := fun r => (B5.out.later (hc r)).cell 1
  have q2 := fun r => (B5.out.later (hc r)).cell 2
  have q3 := fun r => (B5.out.later (hc r)).cell 3
  have q4 := fun r => (B5.out.later (hc r)).cell 4
  refine wpM_mild rfl (fun K hK => ?_)
  go_simp
  refine hK _ ?_
  clear hK K q0 q1 q2 q3 q4 hc
  have hwd := hDr.out
  refine wpM_nil (bag_of (fun i => match i with | 2 => [1] | 3 => [1, 2] | 5 => [1, 2, 3, 4] | _ => [])
    (fun W => Later w W ∧ Box W w.heap.size 27 (tc (.slice ab n cb) (.slice aD k cD) p r l) ∧ Med W (.agg #[.slice a3 n c3, .slice a6 k6 c6]) n F D ∧ (∃ cr, NoInts cr ∧ cr.length = 5 ∧ Box W (w.heap.size + 1) 27 cr))
    (fun i vals W => match i with
      | 1 => vals 1 = .pointer (some ⟨w.heap.size, 2, none⟩)
      | 2 => vals 2 = .bool p
      | 3 => vals 3 = .bool (!p)
      | 4 => Box W (w.heap.size + 1) 27 (tc (.slice a3 n c3) (.slice a6 k6 c6) true r l)
      | 5 => vals 5 = .bool (!p)
      | _ => True) (by kernel_rfl) (by kernel_rfl) ?c1 ?c2 ?c3 ?c4 ?c5 ?c6 ?c7 ?c8)
  case c1 => exact ⟨L5.out.trans hwd, BX5.out.later hwd, M5.out.later hwd, _, tc_noints _ _ _ _ _ _ _ _ _, rfl, BR5.out.later hwd⟩
  case c2 =>
    rintro W W' hl ⟨ii1, ii2, ii3, cr, jj1, jj2, jj3⟩
    exact ⟨ii1.trans hl, ii2.later hl, ii3.later hl, cr, jj1, jj2, jj3.later hl⟩
  case c3 =>
    intro i hi vals W W' hl h
    simp only [List.mem_cons, List.not_mem_nil, or_false] at hi
    rcases hi with rfl | rfl | rfl | rfl | rfl
    · exact h
    · exact h
    · exact h
    · exact Box.later h hl
    · exact h
  case c4 =>
    intro i hi k hk hne hds vals v W h
    simp only [List.mem_cons, List.not_mem_nil, or_false] at hi hk
    rcases hi with rfl | rfl | rfl | rfl | rfl <;> rcases hk with rfl | rfl | rfl | rfl | rfl <;> first | (exact absurd rfl hne) | (simp at hds; done) | (simpa [upd] using h)
  case c5 =>
    rintro i hi hni vals W ⟨ii1, ii2, ii3, ii4⟩ hlb hdep
    simp only [List.mem_cons, List.not_mem_nil, or_false] at hi
    rcases hi with rfl | rfl | rfl | rfl | rfl
    · refine lVal_step rfl (fun K hK => ?_)
      simp only [putAll, List.foldl]
      go_simp
      exact ⟨Later.refl _, hK _ _ (by simp [upd])⟩
    · have h1 : vals 1 = .pointer (some ⟨w.heap.size, 2, none⟩) := hdep 1 (by simp)
      have y2 := ii2.cell 2
      refine lVal_step rfl (fun K hK => ?_)
      simp only [putAll, List.foldl, dstOf, h1]
      go_simp
      exact ⟨Later.refl _, hK _ _ (by simp [upd])⟩
    · have h1 : vals 1 = .pointer (some ⟨w.heap.size, 2, none⟩) := hdep 1 (by simp)
      have h2 : vals 2 = .bool p := hdep 2 (by simp)
      refine lVal_step rfl (fun K hK => ?_)
      simp only [putAll, List.foldl, dstOf, h1, h2]
      go_simp
      exact ⟨Later.refl _, hK _ _ (by simp [upd])⟩
    · exact absurd (by simp) hni
    · have h1 : vals 1 = .pointer (some ⟨w.heap.size, 2, none⟩) := hdep 1 (by simp)
      have h2 : vals 2 = .bool p := hdep 2 (by simp)
      have h3 : vals 3 = .bool (!p) := hdep 3 (by simp)
      refine lVal_step rfl (fun K hK => ?_)
      simp only [putAll, List.foldl, dstOf, h1, h2, h3]
      go_simp
      exact ⟨Later.refl _, hK _ _ (by simp [upd])⟩
  case c6 =>
    rintro i hi hni vals W ⟨ii1, ii2, ii3, cr, jj1, jj2, jj3⟩ hlb hdep
    simp only [List.mem_cons, List.not_mem_nil, or_false] at hni
    subst hni
    refine sVal_store rfl rfl 27 (.tmp 2) (.tmp 8) rfl (w.heap.size + 1) (tc (.slice a3 n c3) (.slice a6 k6 c6) true r l) rfl rfl (jj3.there 0 5 (by omega)) Try.info_slot (tc_one _ _ _ _ _ _ _ _ _) (fun u => ⟨⟨ii1.setCells (by omega) _ 0, ii2.kept (heap_setCells_other W _ _ (by omega) _ _), ii3.setBox jj3 jj1 _ 0, _, tc_noints _ _ _ _ _ _ _ _ _, rfl, jj3.all _ (by simp [jj2])⟩, ?_, fun k hk => by cases hk⟩)
    exact jj3.all _ (by simp [jj2])
  case c7 =>
    intro i hi hst k hk hne hds hds' vals W W' h
    simp only [List.mem_cons, List.not_mem_nil, or_false] at hst hk
    subst hst
    rcases hk with rfl | rfl | rfl | rfl | rfl <;> first | (exact absurd rfl hne) | (exact h) | (simp at hds; done) | (simp at hds'; done)
  case c8 =>
    rintro vals wz ⟨ii1, ii2, ii3, ii4⟩ hall
    have h1 : vals 1 = .pointer (some ⟨w.heap.size, 2, none⟩) := hall 1 (by simp)
    have h2 : vals 2 = .bool p := hall 2 (by simp)
    have h3 : vals 3 = .bool (!p) := hall 3 (by simp)
    have T4 : Hid (Box wz (w.heap.size + 1) 27 (tc (.slice a3 n c3) (.slice a6 k6 c6) true r l)) := hall 4 (by simp)
    have h5 : vals 5 = .bool (!p) := hall 5 (by simp)
    have TL := hide ii1
    have TM := hide ii3
    clear ii1 ii2 ii3 ii4 hall B5 BX5 BR5 L5 M5 hDr hwd
    simp only [putAll, List.foldl, dstOf, h1, h2, h3, h5]
    go_wp2
    exact bodyPost_ret (results_cell_tmp rfl _ _ _ (w.heap.size + 1) 0 rfl (.agg #[.slice a3 n c3, .slice a6 k6 c6, .bool true, .bool r, .bool l]) (.bool (!p)) (shut5 T4.out rfl) rfl) rfl ⟨_, rfl, TL.out, Slt.mk' _ _ _ TM.out⟩
end Go.Proofs.Ytmelkgmbiiobgaa

namespace Go.Proofs.Ytmelkgmbiiobgaa
open Go.ChangeShapes Go.WideShapes Go.ChangeAt Go.RowKit
set_option linter.unusedVariables false
set_option maxRecDepth 4000
set_option linter.unusedSimpArgs false
/-! The landed slot: Switch, Power. -/
end Go.Proofs.Ytmelkgmbiiobgaa

namespace Go.Proofs.Ytmelkgmbiiobgaa
open Go.ChangeShapes Go.WideShapes Go.ChangeAt Go.RowKit
set_option linter.unusedVariables false
set_option maxRecDepth 4000
set_option linter.unusedSimpArgs false
theorem bwithin_w (c : Int) (at_ : Nat) (n : Int) (w : World) (hc1 : -9223372036854775808 ≤ c) (hc : c ≤ 9223372036854775807) (ha : at_ ≤ 18446744073709551615) (hn1 : -9223372036854775808 ≤ n) (hn : n ≤ 9223372036854775807) :
    Calls Try.prog 72 #[.int .i64 c, .int .u64 at_, .int .i64 n] w fun e w' => e = .returned (.bool (withinB c at_ n)) ∧ w' = w := by
  unfold withinB
  by_cases h1 : 0 ≤ n
  · have hd : decide (0 ≤ n) = true := by simpa using h1
    by_cases h2 : n ≤ c
    · have hd2 : decide (n ≤ c) = true := by simpa using h2
      go_enter Try.func72, Try.ntmps72
      go_wp2
      go_ret
      refine ⟨ret_bool ?_, rfl⟩
      simp [hd, hd2]
    · have hd2 : decide (n ≤ c) = false := by simpa using h2
      go_enter Try.func72, Try.ntmps72
      go_wp2
      go_ret
      refine ⟨ret_bool (by first | (simp; done) | (simp; omega)), rfl⟩
  · have hd : decide (0 ≤ n) = false := by simpa using h1
    go_enter Try.func72, Try.ntmps72
    go_wp2
    go_ret
    refine ⟨ret_bool (by first | (simp; done) | (simp; omega)), rfl⟩
theorem bwithin_c (c : Int) (at_ : Nat) (n : Int) (w : World) (hc1 : -9223372036854775808 ≤ c) (hc : c ≤ 9223372036854775807) (ha : at_ ≤ 18446744073709551615) (hn1 : -9223372036854775808 ≤ n) (hn : n ≤ 9223372036854775807) :
    Calls Try.prog 72 #[.int .i64 c, .int .u64 at_, .int .i64 n] w fun e w' => e = .returned (.bool (withinB c at_ n)) ∧ Later w w' :=
  (bwithin_w c at_ n w hc1 hc ha hn1 hn).mono fun e w' ⟨he, hw⟩ => ⟨he, by rw [hw]; exact Later.refl w⟩
end Go.Proofs.Ytmelkgmbiiobgaa
