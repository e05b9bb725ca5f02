import Derived.Test.YtfakboehmcimpaaGreatMAW
import Derived.Test.YtfakboehmcimpaaGreatMAQ
import Derived.Test.YtfakboehmcimpaaGreatMAR
import Derived.Test.YtfakboehmcimpaaGreatMBA
import Derived.Test.YtfakboehmcimpaaGreatMAX
namespace Go.Proofs.YtfakboehmcimpaaGreat
open Go.ChangeShapes Go.WideShapes Go.ChangeAt Go.RowKit
set_option linter.unusedVariables false
set_option maxRecDepth 4000
set_option linter.unusedSimpArgs false
/-! The landed intent: own. -/
/-- a unit's rows of its own -/
def OwnU (B : Nat) (ab : Option Addr) (n cb : Nat) (aD : Option Addr) (k cD : Nat) (am : Option Addr) (m cm : Nat) (F : List UInt8) (D : List Drt) (M : List Sns) (W : World) : Prop :=
  W.ownsRow B 80 64 (.slice ab n cb) n (bv F) ∧ W.ownsRow B 83 65 (.slice aD k cD) k (dv D) ∧ W.ownsRow B 30 3 (.slice am m cm) m (sv M)
set_option maxRecDepth 20000 in
set_option maxHeartbeats 4000000 in
theorem own11_c {ab : Option Addr} {n cb : Nat} {aD : Option Addr} {k cD : Nat} {F : List UInt8} {D : List Drt} {p r l cc : Bool} {am : Option Addr} {m cm : Nat} {s : Sns} {M : List Sns} (w : World)
    (hm : Med w (.agg #[.slice ab n cb, .slice aD k cD]) n F D) (hA : Sl w (.slice am m cm) M) (hn : n ≤ 100) (hD : D.length ≤ 100) (hm1 : m ≤ 100) :
    Calls Tryz.prog 15 #[uval ab n cb aD k cD p r l cc am m cm s] w fun e w' => ∃ ab' cb' aD' cD' am' cm', e = .returned (uval ab' n cb' aD' k cD' p r l cc am' m cm' s) ∧ Later w w' ∧ OwnU w.heap.size ab' n cb' aD' k cD' am' m cm' F D M w' := by
  obtain ⟨vb, vd, e, hb, hd, ho⟩ := hm
  simp at e
  obtain ⟨rfl, rfl⟩ := e
  obtain rfl : k = D.length := by
    obtain ⟨a', c', e'⟩ := hd.shape
    simp at e'
    exact e'.2.1
  have HB := hide hb
  have HD := hide hd
  obtain rfl : m = M.length := by
    obtain ⟨a', c', e'⟩ := hA.1.shape
    simp at e'
    exact e'.2.1
  have HA := hide hA.1
  clear hb hd ho hA
  generalize D.length = k at *
  generalize M.length = m at *
  have BU := hide ((Box.new w 32 (uc ab n cb aD k cD p r l cc am m cm s).toArray).alloc (.cells (uc none 0 0 none 0 0 false false false false none 0 0 (0, 0, 0)).toArray 32))
  have BR : Hid (Box _ (w.heap.size + 1) 32 (uc none 0 0 none 0 0 false false false false none 0 0 (0, 0, 0))) := Box.new' (w.alloc (.cells (uc ab n cb aD k cD p r l cc am m cm s).toArray 32)) 32 (uc none 0 0 none 0 0 false false false false none 0 0 (0, 0, 0)).toArray _ rfl _ (by simp)
  have LL := hide (((Later.refl w).alloc (.cells (uc ab n cb aD k cD p r l cc am m cm s).toArray 32)).alloc (.cells (uc none 0 0 none 0 0 false false false false none 0 0 (0, 0, 0)).toArray 32))
  have x0 := BU.out.cell 0
  go_enter Tryz.func15, Tryz.ntmps15
  go_wp2_with fail
  generalize (w.alloc (.cells (uc ab n cb aD k cD p r l cc am m cm s).toArray 32)).alloc (.cells (uc none 0 0 none 0 0 false false false false none 0 0 (0, 0, 0)).toArray 32) = w1 at *
  obtain ⟨gu, hgu⟩ : ∃ gu, gu = w.heap.size := ⟨_, rfl⟩
  obtain ⟨gr, hgr⟩ : ∃ gr, gr = w.heap.size + 1 := ⟨_, rfl⟩
  rw [← hgr] at BR ⊢
  rw [← hgu] at BU ⊢
  have HG : Hid (w.heap.size ≤ gu ∧ w.heap.size ≤ gr ∧ gr ≠ gu) := by rw [Hid]; omega
  clear hgu hgr x0
  refine (clone64_c w1 (HB.out.later LL.out) (by omega)).mono ?_
  rintro e w2 ⟨v2, rfl, hl, ho⟩
  obtain ⟨ab', cb', rfl⟩ := (Rw.of_owns ho).shape
  have O1 := hide (owns_rebase ho LL.out.size)
  replace LL := hide (LL.out.trans hl)
  replace BU := hide (BU.out.later hl)
  replace BR := hide (BR.out.later hl)
  clear hl ho
  go_wp2_with (refine wpList_storeV rfl 22 (.tmp 10) (.tmp 7) rfl gu 0 rfl ab' n cb' rfl Tryz.info1_blocks10 _ _ BU.out (by simp) ?_)
  intro w3 h3
  have BUn : Hid (Box w3 gu 32 (uc ab' n cb' aD k cD p r l cc am m cm s)) := by rw [h3.out]; exact BU.out.setCells [.slice ab' n cb'] 0 (by simp)
  replace BR : Hid (Box _ gr 32 _) := hide (by have h := BR.out.apart gu HG.out.2.2 [.slice ab' n cb'] 0; rw [← h3.out] at h; exact h)
  replace LL : Hid (Later w _) := hide (by have h := LL.out.setCells HG.out.1 [.slice ab' n cb'] 0; rw [← h3.out] at h; exact h)
  replace O1 : Hid (World.ownsRow w3 _ _ _ _ _ _) := hide (by rw [h3.out]; exact owns_setBox10 O1.out BU.out (by decide) _ _)
  replace BU := BUn
  clear BUn h3
  have x1 := BU.out.cell 1
  go_wp2_with fail
  refine (clone65_c w3 (HD.out.later LL.out) (by omega)).mono ?_
  rintro e w4 ⟨v4, rfl, hl, ho⟩
  obtain ⟨aD', cD', rfl⟩ := (Rw.of_owns ho).shape
  have O2 := hide (owns_rebase ho LL.out.size)
  replace LL := hide (LL.out.trans hl)
  replace BU := hide (BU.out.later hl)
  replace BR := hide (BR.out.later hl)
  replace O1 := hide (owns_later O1.out hl)
  clear hl ho x1
  go_wp2_with (refine wpList_storeV rfl 23 (.tmp 18) (.tmp 15) rfl gu 1 rfl aD' k cD' rfl Tryz.info1_dirty10 _ _ BU.out (by simp) ?_)
  intro w5 h5
  have BUn : Hid (Box w5 gu 32 (uc ab' n cb' aD' k cD' p r l cc am m cm s)) := by rw [h5.out]; exact BU.out.setCells [.slice aD' k cD'] 1 (by simp)
  replace BR : Hid (Box _ gr 32 _) := hide (by have h := BR.out.apart gu HG.out.2.2 [.slice aD' k cD'] 1; rw [← h5.out] at h; exact h)
  replace LL : Hid (Later w _) := hide (by have h := LL.out.setCells HG.out.1 [.slice aD' k cD'] 1; rw [← h5.out] at h; exact h)
  replace O1 : Hid (World.ownsRow w5 _ _ _ _ _ _) := hide (by rw [h5.out]; exact owns_setBox10 O1.out BU.out (by decide) _ _)
  replace O2 : Hid (World.ownsRow w5 _ _ _ _ _ _) := hide (by rw [h5.out]; exact owns_setBox10 O2.out BU.out (by decide) _ _)
  replace BU := BUn
  clear BUn h5
  have x6 := BU.out.cell 6
  go_wp2_with fail
  refine (clone3_c w5 (HA.out.later LL.out) (sv_one M) (by omega)).mono ?_
  rintro e w6 ⟨v6, rfl, hl, ho, hnone⟩
  obtain ⟨am', cm', rfl⟩ := (Rw.of_owns ho).shape
  have O3 := hide (owns_rebase ho LL.out.size)
  replace LL := hide (LL.out.trans hl)
  replace BU := hide (BU.out.later hl)
  replace BR := hide (BR.out.later hl)
  replace O1 := hide (owns_later O1.out hl)
  replace O2 := hide (owns_later O2.out hl)
  clear hl ho x6 hnone
  go_wp2_with (refine wpList_storeV rfl 28 (.tmp 22) (.tmp 21) rfl gu 6 rfl am' m cm' rfl Tryz.info1_sns10 _ _ BU.out (by simp) ?_)
  intro w7 h7
  have BUn : Hid (Box w7 gu 32 (uc ab' n cb' aD' k cD' p r l cc am' m cm' s)) := by rw [h7.out]; exact BU.out.setCells [.slice am' m cm'] 6 (by simp)
  replace BR : Hid (Box _ gr 32 _) := hide (by have h := BR.out.apart gu HG.out.2.2 [.slice am' m cm'] 6; rw [← h7.out] at h; exact h)
  replace LL : Hid (Later w _) := hide (by have h := LL.out.setCells HG.out.1 [.slice am' m cm'] 6; rw [← h7.out] at h; exact h)
  replace O1 : Hid (World.ownsRow w7 _ _ _ _ _ _) := hide (by rw [h7.out]; exact owns_setBox10 O1.out BU.out (by decide) _ _)
  replace O2 : Hid (World.ownsRow w7 _ _ _ _ _ _) := hide (by rw [h7.out]; exact owns_setBox10 O2.out BU.out (by decide) _ _)
  replace O3 : Hid (World.ownsRow w7 _ _ _ _ _ _) := hide (by rw [h7.out]; exact owns_setBox10 O3.out BU.out (by decide) _ _)
  replace BU := BUn
  clear BUn h7
  have x_0 := BU.out.cell 0
  have x_1 := BU.out.cell 1
  have x_2 := BU.out.cell 2
  have x_3 := BU.out.cell 3
  have x_4 := BU.out.cell 4
  have x_5 := BU.out.cell 5
  have x_6 := BU.out.cell 6
  have x_7 := BU.out.cell 7
  have x_8 := BU.out.cell 8
  have x_9 := BU.out.cell 9
  go_wp2_with (refine wpList_storeU rfl 32 (.tmp 2) (.tmp 23) rfl gr 0 rfl (uc ab' n cb' aD' k cD' p r l cc am' m cm' s) rfl Tryz.info_unit (uc_one _ _ _ _ _ _ _ _ _ _ _ _ _ _) _ _ BR.out (by simp) ?_)
  intro wz hz
  have BZ : Hid (Box wz gr 32 (uc ab' n cb' aD' k cD' p r l cc am' m cm' s)) := by rw [hz.out]; exact BR.out.all _ rfl
  have LZ : Hid (Later w wz) := by rw [hz.out]; exact LL.out.setCells HG.out.2.1 _ _
  have OO : Hid (OwnU w.heap.size ab' n cb' aD' k cD' am' m cm' F D M wz) := by
    rw [hz.out]
    exact ⟨owns_setBox10 O1.out BR.out (by decide) _ _, owns_setBox10 O2.out BR.out (by decide) _ _, owns_setBox10 O3.out BR.out (by decide) _ _⟩
  clear hz O1 O2 O3
  clear x_0 x_1 x_2 x_3 x_4 x_5 x_6 x_7 x_8 x_9
  go_wp2
  refine bodyPost_ret (results_cell1 rfl _ _ _ gr 0 rfl (uval ab' n cb' aD' k cD' p r l cc am' m cm' s) (load_unit BZ.out rfl)) rfl ⟨ab', cb', aD', cD', am', cm', rfl, LZ.out, OO.out⟩
end Go.Proofs.YtfakboehmcimpaaGreat

namespace Go.Proofs.YtfakboehmcimpaaGreat
open Go.ChangeShapes Go.WideShapes Go.ChangeAt Go.RowKit
set_option linter.unusedVariables false
set_option maxRecDepth 4000
set_option linter.unusedSimpArgs false
/-! The landed inquiry: what comes behind a page's head. -/
def bodyL (page lun : Int) : List UInt8 :=
  if page = 0 then [0, 128, 131, 176]
  else if page = 128 then serL lun
  else if page = 131 then [2, 1, 0, 16] ++ ([82, 69, 84, 73, 67, 85, 76, 69] ++ serL lun)
  else if page = 176 then [0, 0, 0, 0, 0, 0, 0, 64] ++ z52
  else []
def isPage (page : Int) : Bool := decide (page = 0 ∨ page = 128 ∨ page = 131 ∨ page = 176)
theorem body_0 (lun : Int) (w : World) (h : In64 lun) : Calls Tryz.prog 100 #[.int .i64 0, .int .i64 lun] w fun e w' => ∃ v, e = .returned (.tuple #[v, .bool (isPage 0)]) ∧ Later w w' ∧ Bs w' v (bodyL 0 lun) := by
  have HL : Hid (bodyL 0 lun = [0, 128, 131, 176]) := rfl
  have LL : Hid (Later w (w.alloc (.cells #[.int .u8 0, .int .u8 128, .int .u8 131, .int .u8 176] 5))) := (Later.refl w).alloc _
  have VB : Hid (Bs (w.alloc (.cells #[.int .u8 0, .int .u8 128, .int .u8 131, .int .u8 176] 5)) (.slice (some ⟨w.heap.size, 0, none⟩) 4 4) [0, 128, 131, 176]) := bs_of_box (Box.new w _ _) rfl rfl (by decide)
  clear h
  go_enter Tryz.func100, Tryz.ntmps100
  go_wp2
  go_ret2
  exact ⟨_, rfl, LL.out, by rw [HL.out]; exact VB.out⟩
theorem body_128 (lun : Int) (w : World) (h : In64 lun) : Calls Tryz.prog 100 #[.int .i64 128, .int .i64 lun] w fun e w' => ∃ v, e = .returned (.tuple #[v, .bool (isPage 128)]) ∧ Later w w' ∧ Bs w' v (bodyL 128 lun) := by
  have HL : Hid (bodyL 128 lun = serL lun) := rfl
  have H := hide h
  clear h
  go_enter Tryz.func100, Tryz.ntmps100
  go_wp2_with fail
  refine (serial7_c lun _ H.out).mono ?_
  rintro e w1 ⟨rfl, hl⟩
  have LL := hide hl
  clear hl
  go_wp2_with (refine wpList_strbytes rfl (.tmp 14) rfl (serL lun) rfl (by rw [serL_len]; decide) ?_)
  intro v4 w4 hb4 hl4
  replace LL := hide (LL.out.trans hl4)
  have V4 := hide hb4
  clear hb4 hl4
  go_wp2
  go_ret2
  exact ⟨_, rfl, LL.out, by rw [HL.out]; exact V4.out⟩
set_option maxHeartbeats 1000000 in
theorem body_131 (lun : Int) (w : World) (h : In64 lun) : Calls Tryz.prog 100 #[.int .i64 131, .int .i64 lun] w fun e w' => ∃ v, e = .returned (.tuple #[v, .bool (isPage 131)]) ∧ Later w w' ∧ Bs w' v (bodyL 131 lun) := by
  have HL : Hid (bodyL 131 lun = [2, 1, 0, 16] ++ ([82, 69, 84, 73, 67, 85, 76, 69] ++ serL lun)) := rfl
  have H := hide h
  clear h
  have hcat := ret_ser (serL lun)
  have hs8 : (strOf (serL lun)).size = 8 := rfl
  have hs16 : (strOf ([82, 69, 84, 73, 67, 85, 76, 69] ++ serL lun)).size = 16 := rfl
  go_enter Tryz.func100, Tryz.ntmps100
  go_wp2_with fail
  refine (serial7_c lun _ H.out).mono ?_
  rintro e w1 ⟨rfl, hl⟩
  have LL := hide hl
  clear hl
  go_wp2_with (at_builtin; refine wpList_append_text rfl (.tmp 24) (.tmp 25) rfl w1.heap.size 4 _ [2, 1, 0, 16] ([82, 69, 84, 73, 67, 85, 76, 69] ++ serL lun) rfl rfl (owns_box (Box.new w1 5 #[.int .u8 2, .int .u8 1, .int .u8 0, .int .u8 16]) rfl (by decide) (Nat.le_refl _)) (by decide) (by rw [List.length_append, serL_len]; decide) (by simp) w1 ((Later.refl w1).alloc _) ?_)
  intro v5 w5 ho hb
  have V5 := hide (Bs.of_owns ho).1
  have L5 : Later w1 w5 := hb
  replace LL := hide (LL.out.trans L5)
  clear ho hb L5
  go_wp2
  go_ret2
  exact ⟨_, rfl, LL.out, by rw [HL.out]; exact V5.out⟩
theorem body_176 (lun : Int) (w : World) (h : In64 lun) : Calls Tryz.prog 100 #[.int .i64 176, .int .i64 lun] w fun e w' => ∃ v, e = .returned (.tuple #[v, .bool (isPage 176)]) ∧ Later w w' ∧ Bs w' v (bodyL 176 lun) := by
  have HL : Hid (bodyL 176 lun = [0, 0, 0, 0, 0, 0, 0, 64] ++ z52) := rfl
  clear h
  go_enter Tryz.func100, Tryz.ntmps100
  go_wp2_with (at_builtin; refine wpList_append_zeros rfl (.tmp 29) rfl w.heap.size w.heap.size 8 8 [0, 0, 0, 0, 0, 0, 0, 64] rfl (owns_box (Box.new w 5 #[.int .u8 0, .int .u8 0, .int .u8 0, .int .u8 0, .int .u8 0, .int .u8 0, .int .u8 0, .int .u8 64]) rfl (by decide) (Nat.le_refl _)) (by decide) (by simp) w ((Later.refl w).alloc _) ?_)
  intro v5 w5 ho hb
  have V5 := hide (Bs.of_owns ho).1
  have L5 : Hid (Later w w5) := hb
  clear ho hb
  go_wp2
  go_ret2
  exact ⟨_, rfl, L5.out, by rw [HL.out]; exact V5.out⟩
theorem body_other (page lun : Int) (w : World) (h0 : page ≠ 0) (h1 : page ≠ 128) (h2 : page ≠ 131) (h3 : page ≠ 176) : Calls Tryz.prog 100 #[.int .i64 page, .int .i64 lun] w fun e w' => ∃ v, e = .returned (.tuple #[v, .bool (isPage page)]) ∧ Later w w' ∧ Bs w' v (bodyL page lun) := by
  have HL : Hid (bodyL page lun = []) := by simp [Hid, bodyL, h0, h1, h2, h3]
  have HP : Hid (isPage page = false) := by simp [Hid, isPage, h0, h1, h2, h3]
  go_enter Tryz.func100, Tryz.ntmps100
  go_wp2
  go_ret2
  rw [HP.out, HL.out]
  exact ⟨_, rfl, Later.refl _, Bs.nil _⟩
theorem body_c (page lun : Int) (w : World) (h : In64 lun) : Calls Tryz.prog 100 #[.int .i64 page, .int .i64 lun] w fun e w' => ∃ v, e = .returned (.tuple #[v, .bool (isPage page)]) ∧ Later w w' ∧ Bs w' v (bodyL page lun) := by
  by_cases h0 : page = 0
  · subst h0; exact body_0 lun w h
  by_cases h1 : page = 128
  · subst h1; exact body_128 lun w h
  by_cases h2 : page = 131
  · subst h2; exact body_131 lun w h
  by_cases h3 : page = 176
  · subst h3; exact body_176 lun w h
  exact body_other page lun w h0 h1 h2 h3
end Go.Proofs.YtfakboehmcimpaaGreat

namespace Go.Proofs.YtfakboehmcimpaaGreat
open Go.ChangeShapes Go.WideShapes Go.ChangeAt Go.RowKit
set_option linter.unusedVariables false
set_option maxRecDepth 4000
set_option linter.unusedSimpArgs false
/-! The landed inquiry: Page. -/
theorem body_no {page lun : Int} (h : isPage page = false) (there : Bool) : pageS page = (5, 36, 0) ∧ pageL page lun there = [] := by
  simp [isPage] at h
  simp [pageS, pageL, h]
theorem body_yes {page lun : Int} (h : isPage page = true) (there : Bool) : pageS page = (0, 0, 0) ∧ (bodyL page lun).length ≤ 60 ∧ pageL page lun there = ([firstB there, UInt8.ofNat (page % 256).toNat] ++ putBeI (bodyL page lun).length 2) ++ bodyL page lun := by
  simp [isPage] at h
  have e4 : putBeI 4 2 = [0, 4] := by decide
  have e8 : putBeI 8 2 = [0, 8] := by decide
  have e20 : putBeI 20 2 = [0, 20] := by decide
  have e60 : putBeI 60 2 = [0, 60] := by decide
  rcases h with rfl | rfl | rfl | rfl
  · have hl : (bodyL 0 lun).length = 4 := rfl
    rw [hl, e4]
    exact ⟨rfl, by decide, rfl⟩
  · have hl : (bodyL 128 lun).length = 8 := rfl
    rw [hl, e8]
    exact ⟨rfl, by decide, rfl⟩
  · have hl : (bodyL 131 lun).length = 20 := rfl
    rw [hl, e20]
    exact ⟨rfl, by decide, rfl⟩
  · have hl : (bodyL 176 lun).length = 60 := by simp [bodyL, z52_len]
    rw [hl, e60]
    exact ⟨rfl, by decide, rfl⟩
theorem u8_of (x : Int) : ((UInt8.ofNat (x % 256).toNat).toNat : Int) = x % 256 := by
  rw [UInt8.toNat_ofNat']; omega
set_option maxHeartbeats 2000000 in
theorem page7_c : IPage7 := by
  intro page lun there w hp hlun
  have H2 := hide hlun
  clear hlun hp
  have LL := hide ((Later.refl w).alloc (.cells #[.int .i64 0, .int .i64 0, .int .i64 0] 30))
  have BS : Hid (Box _ w.heap.size 30 (sc (0, 0, 0))) := Box.new w 30 #[.int .i64 0, .int .i64 0, .int .i64 0]
  go_enter Tryz.func63, Tryz.ntmps63
  go_wp2_with fail
  have hsz : Hid (w.heap.size < (w.alloc (.cells #[.int .i64 0, .int .i64 0, .int .i64 0] 30)).heap.size) := by simp [Hid]
  generalize w.alloc (.cells #[.int .i64 0, .int .i64 0, .int .i64 0] 30) = w1 at *
  refine (body_c page lun _ H2.out).mono ?_
  rintro e w2 ⟨vb, rfl, hl, hv⟩
  replace LL := hide (LL.out.trans hl)
  replace BS := hide (BS.out.later hl)
  have VB := hide hv
  clear hl hv
  cases hi : isPage page with
  | false =>
    have HN := hide (body_no (lun := lun) hi there)
    clear hi
    go_wp2_with fail
    refine (con_Field _).mono ?_
    rintro e w3 ⟨rfl, hl⟩
    replace LL := hide (LL.out.trans hl)
    replace BS := hide (BS.out.later hl)
    clear hl
    go_wp2_with (refine wpList_storeU rfl 30 (.tmp 7) (.tmp 19) rfl w.heap.size 0 rfl (sc (5, 36, 0)) rfl Tryz.info_sense (sc_one _) _ _ BS.out (by simp) ?_)
    intro wz hz
    have BZ : Hid (Box wz w.heap.size 30 (sc (5, 36, 0))) := by rw [hz.out]; exact BS.out.all _ rfl
    have LZ : Hid (Later w wz) := by rw [hz.out]; exact LL.out.setCells (Nat.le_refl _) _ _
    clear hz
    go_wp2
    refine bodyPost_ret (results_tmp_cell' rfl _ _ _ w.heap.size 0 rfl _ _ (run_loadVar_mid _ _ _ _ (sc (5, 36, 0)) _ BZ.out.range Tryz.underlying30 rfl Tryz.info_sense) rfl) rfl ⟨_, by rw [HN.out.1], LZ.out, by rw [HN.out.2]; exact Bs.nil _⟩
  | true =>
    have HY := hide (body_yes (lun := lun) hi there)
    clear hi
    have VB2 := VB.out
    obtain ⟨hlm, ab, cb, rfl, hcb, hx⟩ := VB2
    clear hlm hcb hx
    obtain ⟨B, hB⟩ : ∃ B, B = bodyL page lun := ⟨_, rfl⟩
    rw [← hB] at VB HY ⊢
    have HB := hide hB
    clear hB
    obtain ⟨n, hn⟩ : ∃ n, n = B.length := ⟨_, rfl⟩
    have hn60 : n ≤ 60 := by rw [hn]; exact HY.out.2.1
    rw [← hn] at VB HY ⊢
    have HNn := hide hn
    clear hn
    have hw64 : IntKind.u64.wrap (n : Int) = (n : Int) := by rw [IntKind.wrap_u64]; omega
    go_wp2_with fail
    refine (first7_c there _).mono ?_
    rintro e w' ⟨rfl, hw⟩
    have hw2 := hw.symm
    subst hw2
    clear hw
    generalize firstB there = f at *
    go_wp2_with fail
    have BH : Hid (Box (w2.alloc (.cells #[.int .u8 (f.toNat : Int), .int .u8 (page % 256)] 5)) w2.heap.size 5 (bv [f, UInt8.ofNat (page % 256).toNat])) := by
      have hh : bv [f, UInt8.ofNat (page % 256).toNat] = [.int .u8 (f.toNat : Int), .int .u8 (page % 256)] := by
        show [Value.int .u8 (f.toNat : Int), .int .u8 ((UInt8.ofNat (page % 256).toNat).toNat : Int)] = _
        rw [u8_of]
      rw [Hid, hh]
      exact Box.new w2 _ _
    have OH : Hid _ := owns_box (B := w2.heap.size) (n := 2) BH.out rfl (by decide) (Nat.le_refl _)
    have LH : Hid (Later w2 (w2.alloc (.cells #[.int .u8 (f.toNat : Int), .int .u8 (page % 256)] 5))) := (Later.refl w2).alloc _
    clear BH
    refine (putBig_c n 2 _ _ (Nat.le_refl _) (by omega)).mono ?_
    rintro e w3 ⟨v3, rfl, hl, ho⟩
    replace OH := hide (owns_later OH.out hl)
    replace LH := hide (LH.out.trans hl)
    have V3 := hide (Bs.of_owns ho).1
    clear ho hl
    go_wp2_with (at_builtin; refine wpList_append_bs rfl (.tmp 25) (.tmp 29) rfl w2.heap.size _ 2 _ rfl OH.out v3 _ rfl V3.out (by rw [show (putBeI n 2).length = 2 from putBe_length _ _]; decide) LH.out.size w2 LH.out ?_)
    intro v4 w4 ho hb hg
    rw [show (putBeI n 2).length = 2 from putBe_length _ _] at ho
    have O4 := hide ho
    have L4 : Hid (Later w2 w4) := hb
    clear ho hb hg OH LH V3
    replace VB := hide (VB.out.later L4.out)
    go_wp2_with (at_builtin; refine wpList_append_bs rfl (.tmp 31) (.tmp 32) rfl w2.heap.size v4 4 _ rfl O4.out _ B rfl VB.out (by have := HNn.out; omega) L4.out.size w2 L4.out ?_)
    intro v5 w5 ho hb hg
    have V5 := hide (Bs.of_owns ho).1
    have L5 : Later w2 w5 := hb
    replace LL := hide (LL.out.trans L5)
    replace BS := hide (BS.out.later L5)
    clear ho hb hg O4 L4 L5 VB
    go_wp2_with (refine wpList_storeU rfl 30 (.tmp 7) (.tmp 34) rfl w.heap.size 0 rfl (sc (0, 0, 0)) rfl Tryz.info_sense (sc_one _) _ _ BS.out (by simp) ?_)
    intro wz hz
    have BZ : Hid (Box wz w.heap.size 30 (sc (0, 0, 0))) := by rw [hz.out]; exact BS.out.all _ rfl
    have LZ : Hid (Later w wz) := by rw [hz.out]; exact LL.out.setCells (Nat.le_refl _) _ _
    have VZ := V5.out.setSns7 BS.out (sc (0, 0, 0)) 0
    rw [← hz.out] at VZ
    clear hz
    go_wp2
    refine bodyPost_ret (results_tmp_cell' rfl _ _ _ w.heap.size 0 rfl _ _ (run_loadVar_mid _ _ _ _ (sc (0, 0, 0)) _ BZ.out.range Tryz.underlying30 rfl Tryz.info_sense) rfl) rfl ⟨_, by rw [HY.out.1], LZ.out, by rw [HY.out.2.2]; exact VZ⟩
end Go.Proofs.YtfakboehmcimpaaGreat

namespace Go.Proofs.YtfakboehmcimpaaGreat
open Go.ChangeShapes Go.WideShapes Go.ChangeAt Go.RowKit
set_option linter.unusedVariables false
set_option maxRecDepth 4000
set_option linter.unusedSimpArgs false
/-! The landed inquiry: Answer. -/
set_option maxHeartbeats 4000000 in
theorem ans7_c : IAns7 := by
  intro c lun luns w hc hlun hluns
  have HN : Hid (In64 c.2.2.1) := hc.2.2.1
  have HPg : Hid (In64 c.2.2.2.1) := hc.2.2.2.1
  have HLun := hide hlun
  clear hc hlun hluns
  obtain ⟨op, at_, n, pg, bt⟩ := c
  simp only at HN HPg
  have BX := hide ((Box.new w 36 #[.int .i64 op, .int .u64 (at_ : Int), .int .i64 n, .int .i64 pg, .int .i64 bt]).alloc (.cells #[.int .i64 0, .int .i64 0, .int .i64 0] 30))
  have BS : Hid (Box _ (w.heap.size + 1) 30 (sc (0, 0, 0))) := Box.new' (w.alloc (.cells #[.int .i64 op, .int .u64 (at_ : Int), .int .i64 n, .int .i64 pg, .int .i64 bt] 36)) 30 #[.int .i64 0, .int .i64 0, .int .i64 0] _ rfl _ (by simp)
  have LL := hide (((Later.refl w).alloc (.cells #[.int .i64 op, .int .u64 (at_ : Int), .int .i64 n, .int .i64 pg, .int .i64 bt] 36)).alloc (.cells #[.int .i64 0, .int .i64 0, .int .i64 0] 30))
  by_cases hop : op = 18
  case neg =>
    have HR : Hid (ansR (op, at_, n, pg, bt) lun luns = ([], (5, 36, 0))) := by simp [Hid, ansR, hop]
    have hopb : (op != 18) = true := by simp [hop]
    clear hop
    go_enter Tryz.func22, Tryz.ntmps22
    go_wp2_with fail
    generalize ((w.alloc (.cells #[.int .i64 op, .int .u64 (at_ : Int), .int .i64 n, .int .i64 pg, .int .i64 bt] 36)).alloc (.cells #[.int .i64 0, .int .i64 0, .int .i64 0] 30)) = w1 at *
    refine (con_Field _).mono ?_
    rintro e w2 ⟨rfl, hl⟩
    replace LL := hide (LL.out.trans hl)
    replace BS := hide (BS.out.later hl)
    clear hl
    go_wp2_with (refine wpList_storeU rfl 30 (.tmp 7) (.tmp 14) rfl (w.heap.size + 1) 0 rfl (sc (5, 36, 0)) rfl Tryz.info_sense (sc_one _) _ _ BS.out (by simp) ?_)
    intro wz hz
    have BZ : Hid (Box wz (w.heap.size + 1) 30 (sc (5, 36, 0))) := by rw [hz.out]; exact BS.out.all _ rfl
    have LZ : Hid (Later w wz) := by rw [hz.out]; exact LL.out.setCells (Nat.le_succ _) _ _
    clear hz
    go_wp2
    refine bodyPost_ret (results_tmp_cell' rfl _ _ _ (w.heap.size + 1) 0 rfl _ _ (run_loadVar_mid _ _ _ _ (sc (5, 36, 0)) _ BZ.out.range Tryz.underlying30 rfl Tryz.info_sense) rfl) rfl ⟨_, by rw [HR.out], LZ.out, by rw [HR.out]; exact (Bs.nil _)⟩
  subst hop
  have HT : Hid (thereB lun luns = (decide (0 ≤ lun) && decide (lun < luns))) := rfl
  have HA : Hid (ansR (18, at_, n, pg, bt) lun luns = if bt ≠ 1 then (cutL (stdL (thereB lun luns)) n, (0, 0, 0)) else (cutL (pageL pg lun (thereB lun luns)) n, pageS pg)) := by simp [Hid, ansR]
  generalize thereB lun luns = th at *
  have x0 := BX.out.cell 0
  have x1 := BX.out.cell 1
  have x2 := BX.out.cell 2
  have x3 := BX.out.cell 3
  have x4 := BX.out.cell 4
  go_enter Tryz.func22, Tryz.ntmps22
  cases ha : decide (0 ≤ lun) with
  | false =>
    have ht : th = false := by rw [HT.out, ha]; rfl
    subst ht
    clear HT
    by_cases hb : bt = 1
    case neg =>
      have hbb : (bt != 1) = true := by simp [hb]
      have HR : Hid (ansR (18, at_, n, pg, bt) lun luns = (cutL (stdL false) n, (0, 0, 0))) := by rw [Hid, HA.out, if_pos hb]
      clear hb
      go_wp2_with fail
      clear x0 x1 x2 x3 x4
      generalize ((w.alloc (.cells #[.int .i64 18, .int .u64 (at_ : Int), .int .i64 n, .int .i64 pg, .int .i64 bt] 36)).alloc (.cells #[.int .i64 0, .int .i64 0, .int .i64 0] 30)) = w1 at *
      refine wp_region_held (fun W => Later w W ∧ Box W w.heap.size 36 [.int .i64 18, .int .u64 (at_ : Int), .int .i64 n, .int .i64 pg, .int .i64 bt]) (fun a b hl h => ⟨h.1.trans hl, h.2.later hl⟩) ⟨LL.out, BX.out⟩ [(0, false), (2, false), (3, false), (5, false), (1, true), (4, true), (6, false), (7, true)] (by kernel_rfl) (by kernel_rfl) (by kernel_rfl) (by kernel_rfl) ?_
      haveI : Nonempty (Held (fun W => Later w W ∧ Box W w.heap.size 36 [.int .i64 18, .int .u64 (at_ : Int), .int .i64 n, .int .i64 pg, .int .i64 bt])) := ⟨⟨_, LL.out, BX.out⟩⟩
      have e2 := fun p : Held (fun W => Later w W ∧ Box W w.heap.size 36 [.int .i64 18, .int .u64 (at_ : Int), .int .i64 n, .int .i64 pg, .int .i64 bt]) => p.h.2.cell 2
      replace LL := hide (LL.out.trans (Later.refl _).drew)
      replace BX := hide (BX.out.later (Later.refl _).drew)
      replace BS := hide (BS.out.later (Later.refl _).drew)
      iterate 4 (refine wpJ_mild rfl (fun K hK => ?_); go_simp; refine hK _ ?_; clear hK K)
      refine wpJ_callL (fun a b hl h => ⟨h.1.trans hl, h.2.later hl⟩) rfl (by kernel_rfl) 62 (Plain.of (by kernel_rfl)) [.tmp 25] _ rfl [.bool false] rfl (fun v W => Bs W v (stdL false)) ⟨LL.out, BX.out⟩ (fun wx hx => std7_c false wx) ?_
      intro v1 b1 hl1 hr1
      replace LL := hide (LL.out.trans hl1)
      replace BX := hide (BX.out.later hl1)
      replace BS := hide (BS.out.later hl1)
      clear hl1
      refine wpJ_callL (fun a b hl h => ⟨h.1.trans hl, h.2.later hl⟩) rfl (by kernel_rfl) 58 (Plain.of (by kernel_rfl)) [.tmp 26, .tmp 28] _ rfl [v1, .int .i64 n] rfl (fun v W => Bs W v (cutL (stdL false) n)) ⟨LL.out, BX.out⟩ (fun wx hx => cut7_c v1 _ n wx (hr1.later hx) (by rw [stdL_len]; decide) HN.out) ?_
      intro v2 b2 hl2 hr2
      replace LL := hide (LL.out.trans hl2)
      replace BX := hide (BX.out.later hl2)
      replace BS := hide (BS.out.later hl2)
      clear hr1
      iterate 1 (refine wpJ_mild rfl (fun K hK => ?_); go_simp; refine hK _ ?_; clear hK K)
      refine wpJ_store rfl rfl 30 (.tmp 7) (.tmp 30) rfl (w.heap.size + 1) (sc (0, 0, 0)) rfl rfl Tryz.info_sense (sc_one _) _ _ BS.out (by simp) (fun W hW => ⟨(LL.out.trans hW).setCells (Nat.le_succ _) _ _, (BX.out.later hW).apart _ (by omega) _ _⟩) ?_
      intro wl hl wz hz
      have BZ : Hid (Box wz (w.heap.size + 1) 30 (sc (0, 0, 0))) := by rw [hz.out]; exact (BS.out.later hl).all _ rfl
      have LZ : Hid (Later w wz) := by rw [hz.out]; exact (LL.out.trans hl).setCells (Nat.le_succ _) _ _
      have VZ := (hr2.later hl).setSns7 (BS.out.later hl) (sc (0, 0, 0)) 0
      rw [← hz.out] at VZ
      clear hz hl hr2 hl2 e2
      refine wpJ_nil (fun wn hn => ?_)
      replace BZ := hide (BZ.out.later hn)
      replace LZ := hide (LZ.out.trans hn)
      have VN := hide (VZ.later hn)
      clear hn VZ
      go_wp2
      refine bodyPost_ret (results_tmp_cell' rfl _ _ _ (w.heap.size + 1) 0 rfl _ _ (run_loadVar_mid _ _ _ _ (sc (0, 0, 0)) _ BZ.out.range Tryz.underlying30 rfl Tryz.info_sense) rfl) rfl ⟨_, by rw [HR.out], LZ.out, by rw [HR.out]; exact VN.out⟩
    subst hb
    have HR : Hid (ansR (18, at_, n, pg, 1) lun luns = (cutL (pageL pg lun false) n, pageS pg)) := by rw [Hid, HA.out, if_neg (by simp)]
    go_wp2_with fail
    clear x0 x1 x2 x3 x4
    generalize ((w.alloc (.cells #[.int .i64 18, .int .u64 (at_ : Int), .int .i64 n, .int .i64 pg, .int .i64 1] 36)).alloc (.cells #[.int .i64 0, .int .i64 0, .int .i64 0] 30)) = w1 at *
    refine (page7_c pg lun false _ HPg.out HLun.out).mono ?_
    rintro e w2 ⟨vp, rfl, hl, hp⟩
    replace LL := hide (LL.out.trans hl)
    replace BX := hide (BX.out.later hl)
    replace BS := hide (BS.out.later hl)
    have VP := hide hp
    clear hl hp
    generalize pageS pg = sp at *
    go_wp2_with (refine wpList_newAS rfl rfl rfl rfl 10 9 rfl rfl (by simp) (by decide) (.tmp 37) (.tmp 38) (by simp) (by simp) (by simp) rfl rfl rfl _ sp rfl rfl ?_)
    intro g10 w3 hB hl hg
    have hg10 : Hid (w.heap.size + 1 < g10) := by rw [Hid, hg.out]; exact BS.out.lt
    replace LL := hide (LL.out.trans hl)
    replace BX := hide (BX.out.later hl)
    replace BS := hide (BS.out.later hl)
    replace VP := hide (VP.out.later hl)
    have B10 := hide hB
    clear hl hg hB
    go_wp2_with fail
    refine wp_region_held (fun W => (Later w W ∧ Box W w.heap.size 36 [.int .i64 18, .int .u64 (at_ : Int), .int .i64 n, .int .i64 pg, .int .i64 1]) ∧ Box W g10 30 (sc sp)) (fun a b hl h => ⟨⟨h.1.1.trans hl, h.1.2.later hl⟩, h.2.later hl⟩) ⟨⟨LL.out, BX.out⟩, B10.out⟩ [(0, false), (1, false), (2, false), (4, false), (3, true), (5, false), (6, true)] (by kernel_rfl) (by kernel_rfl) (by kernel_rfl) (by kernel_rfl) ?_
    haveI : Nonempty (Held (fun W => (Later w W ∧ Box W w.heap.size 36 [.int .i64 18, .int .u64 (at_ : Int), .int .i64 n, .int .i64 pg, .int .i64 1]) ∧ Box W g10 30 (sc sp))) := ⟨⟨_, ⟨LL.out, BX.out⟩, B10.out⟩⟩
    have e2 := fun p : Held (fun W => (Later w W ∧ Box W w.heap.size 36 [.int .i64 18, .int .u64 (at_ : Int), .int .i64 n, .int .i64 pg, .int .i64 1]) ∧ Box W g10 30 (sc sp)) => p.h.1.2.cell 2
    have s0 := fun p : Held (fun W => (Later w W ∧ Box W w.heap.size 36 [.int .i64 18, .int .u64 (at_ : Int), .int .i64 n, .int .i64 pg, .int .i64 1]) ∧ Box W g10 30 (sc sp)) => p.h.2.cell 0
    have s1 := fun p : Held (fun W => (Later w W ∧ Box W w.heap.size 36 [.int .i64 18, .int .u64 (at_ : Int), .int .i64 n, .int .i64 pg, .int .i64 1]) ∧ Box W g10 30 (sc sp)) => p.h.2.cell 1
    have s2 := fun p : Held (fun W => (Later w W ∧ Box W w.heap.size 36 [.int .i64 18, .int .u64 (at_ : Int), .int .i64 n, .int .i64 pg, .int .i64 1]) ∧ Box W g10 30 (sc sp)) => p.h.2.cell 2
    replace LL := hide (LL.out.trans (Later.refl _).drew)
    replace BX := hide (BX.out.later (Later.refl _).drew)
    replace BS := hide (BS.out.later (Later.refl _).drew)
    replace B10 := hide (B10.out.later (Later.refl _).drew)
    replace VP := hide (VP.out.later (Later.refl _).drew)
    iterate 4 (refine wpJ_mild rfl (fun K hK => ?_); go_simp; refine hK _ ?_; clear hK K)
    refine wpJ_callL (fun a b hl h => ⟨⟨h.1.1.trans hl, h.1.2.later hl⟩, h.2.later hl⟩) rfl (by kernel_rfl) 58 (Plain.of (by kernel_rfl)) [.tmp 39, .tmp 41] _ rfl [vp, .int .i64 n] rfl (fun v W => Bs W v (cutL (pageL pg lun false) n)) ⟨⟨LL.out, BX.out⟩, B10.out⟩ (fun wx hx => cut7_c vp _ n wx (VP.out.later hx) (by have := pageL_len pg lun false; omega) HN.out) ?_
    intro v2 b2 hl2 hr2
    replace LL := hide (LL.out.trans hl2)
    replace BX := hide (BX.out.later hl2)
    replace BS := hide (BS.out.later hl2)
    (clear s0 s1 s2; replace B10 := hide (B10.out.later hl2))
    iterate 1 (refine wpJ_mild rfl (fun K hK => ?_); go_simp; refine hK _ ?_; clear hK K)
    refine wpJ_store rfl rfl 30 (.tmp 7) (.tmp 43) rfl (w.heap.size + 1) (sc sp) rfl rfl Tryz.info_sense (sc_one _) _ _ BS.out (by simp) (fun W hW => ⟨⟨(LL.out.trans hW).setCells (Nat.le_succ _) _ _, (BX.out.later hW).apart _ (by omega) _ _⟩, (B10.out.later hW).apart _ (by have := hg10.out; omega) _ _⟩) ?_
    intro wl hl wz hz
    have BZ : Hid (Box wz (w.heap.size + 1) 30 (sc sp)) := by rw [hz.out]; exact (BS.out.later hl).all _ rfl
    have LZ : Hid (Later w wz) := by rw [hz.out]; exact (LL.out.trans hl).setCells (Nat.le_succ _) _ _
    have VZ := (hr2.later hl).setSns7 (BS.out.later hl) (sc sp) 0
    rw [← hz.out] at VZ
    clear hz hl hr2 hl2 e2
    refine wpJ_nil (fun wn hn => ?_)
    replace BZ := hide (BZ.out.later hn)
    replace LZ := hide (LZ.out.trans hn)
    have VN := hide (VZ.later hn)
    clear hn VZ
    go_wp2
    refine bodyPost_ret (results_tmp_cell' rfl _ _ _ (w.heap.size + 1) 0 rfl _ _ (run_loadVar_mid _ _ _ _ (sc sp) _ BZ.out.range Tryz.underlying30 rfl Tryz.info_sense) rfl) rfl ⟨_, by rw [HR.out], LZ.out, by rw [HR.out]; exact VN.out⟩
  | true =>
    have ht : decide (lun < luns) = th := by rw [HT.out, ha]; rfl
    clear HT
    by_cases hb : bt = 1
    case neg =>
      have hbb : (bt != 1) = true := by simp [hb]
      have HR : Hid (ansR (18, at_, n, pg, bt) lun luns = (cutL (stdL th) n, (0, 0, 0))) := by rw [Hid, HA.out, if_pos hb]
      clear hb
      go_wp2_with fail
      clear x0 x1 x2 x3 x4
      generalize ((w.alloc (.cells #[.int .i64 18, .int .u64 (at_ : Int), .int .i64 n, .int .i64 pg, .int .i64 bt] 36)).alloc (.cells #[.int .i64 0, .int .i64 0, .int .i64 0] 30)) = w1 at *
      refine wp_region_held (fun W => Later w W ∧ Box W w.heap.size 36 [.int .i64 18, .int .u64 (at_ : Int), .int .i64 n, .int .i64 pg, .int .i64 bt]) (fun a b hl h => ⟨h.1.trans hl, h.2.later hl⟩) ⟨LL.out, BX.out⟩ [(0, false), (2, false), (3, false), (5, false), (1, true), (4, true), (6, false), (7, true)] (by kernel_rfl) (by kernel_rfl) (by kernel_rfl) (by kernel_rfl) ?_
      haveI : Nonempty (Held (fun W => Later w W ∧ Box W w.heap.size 36 [.int .i64 18, .int .u64 (at_ : Int), .int .i64 n, .int .i64 pg, .int .i64 bt])) := ⟨⟨_, LL.out, BX.out⟩⟩
      have e2 := fun p : Held (fun W => Later w W ∧ Box W w.heap.size 36 [.int .i64 18, .int .u64 (at_ : Int), .int .i64 n, .int .i64 pg, .int .i64 bt]) => p.h.2.cell 2
      replace LL := hide (LL.out.trans (Later.refl _).drew)
      replace BX := hide (BX.out.later (Later.refl _).drew)
      replace BS := hide (BS.out.later (Later.refl _).drew)
      iterate 4 (refine wpJ_mild rfl (fun K hK => ?_); go_simp; refine hK _ ?_; clear hK K)
      refine wpJ_callL (fun a b hl h => ⟨h.1.trans hl, h.2.later hl⟩) rfl (by kernel_rfl) 62 (Plain.of (by kernel_rfl)) [.tmp 25] _ rfl [.bool th] rfl (fun v W => Bs W v (stdL th)) ⟨LL.out, BX.out⟩ (fun wx hx => std7_c th wx) ?_
      intro v1 b1 hl1 hr1
      replace LL := hide (LL.out.trans hl1)
      replace BX := hide (BX.out.later hl1)
      replace BS := hide (BS.out.later hl1)
      clear hl1
      refine wpJ_callL (fun a b hl h => ⟨h.1.trans hl, h.2.later hl⟩) rfl (by kernel_rfl) 58 (Plain.of (by kernel_rfl)) [.tmp 26, .tmp 28] _ rfl [v1, .int .i64 n] rfl (fun v W => Bs W v (cutL (stdL th) n)) ⟨LL.out, BX.out⟩ (fun wx hx => cut7_c v1 _ n wx (hr1.later hx) (by rw [stdL_len]; decide) HN.out) ?_
      intro v2 b2 hl2 hr2
      replace LL := hide (LL.out.trans hl2)
      replace BX := hide (BX.out.later hl2)
      replace BS := hide (BS.out.later hl2)
      clear hr1
      iterate 1 (refine wpJ_mild rfl (fun K hK => ?_); go_simp; refine hK _ ?_; clear hK K)
      refine wpJ_store rfl rfl 30 (.tmp 7) (.tmp 30) rfl (w.heap.size + 1) (sc (0, 0, 0)) rfl rfl Tryz.info_sense (sc_one _) _ _ BS.out (by simp) (fun W hW => ⟨(LL.out.trans hW).setCells (Nat.le_succ _) _ _, (BX.out.later hW).apart _ (by omega) _ _⟩) ?_
      intro wl hl wz hz
      have BZ : Hid (Box wz (w.heap.size + 1) 30 (sc (0, 0, 0))) := by rw [hz.out]; exact (BS.out.later hl).all _ rfl
      have LZ : Hid (Later w wz) := by rw [hz.out]; exact (LL.out.trans hl).setCells (Nat.le_succ _) _ _
      have VZ := (hr2.later hl).setSns7 (BS.out.later hl) (sc (0, 0, 0)) 0
      rw [← hz.out] at VZ
      clear hz hl hr2 hl2 e2
      refine wpJ_nil (fun wn hn => ?_)
      replace BZ := hide (BZ.out.later hn)
      replace LZ := hide (LZ.out.trans hn)
      have VN := hide (VZ.later hn)
      clear hn VZ
      go_wp2
      refine bodyPost_ret (results_tmp_cell' rfl _ _ _ (w.heap.size + 1) 0 rfl _ _ (run_loadVar_mid _ _ _ _ (sc (0, 0, 0)) _ BZ.out.range Tryz.underlying30 rfl Tryz.info_sense) rfl) rfl ⟨_, by rw [HR.out], LZ.out, by rw [HR.out]; exact VN.out⟩
    subst hb
    have HR : Hid (ansR (18, at_, n, pg, 1) lun luns = (cutL (pageL pg lun th) n, pageS pg)) := by rw [Hid, HA.out, if_neg (by simp)]
    go_wp2_with fail
    clear x0 x1 x2 x3 x4
    generalize ((w.alloc (.cells #[.int .i64 18, .int .u64 (at_ : Int), .int .i64 n, .int .i64 pg, .int .i64 1] 36)).alloc (.cells #[.int .i64 0, .int .i64 0, .int .i64 0] 30)) = w1 at *
    refine (page7_c pg lun th _ HPg.out HLun.out).mono ?_
    rintro e w2 ⟨vp, rfl, hl, hp⟩
    replace LL := hide (LL.out.trans hl)
    replace BX := hide (BX.out.later hl)
    replace BS := hide (BS.out.later hl)
    have VP := hide hp
    clear hl hp
    generalize pageS pg = sp at *
    go_wp2_with (refine wpList_newAS rfl rfl rfl rfl 10 9 rfl rfl (by simp) (by decide) (.tmp 37) (.tmp 38) (by simp) (by simp) (by simp) rfl rfl rfl _ sp rfl rfl ?_)
    intro g10 w3 hB hl hg
    have hg10 : Hid (w.heap.size + 1 < g10) := by rw [Hid, hg.out]; exact BS.out.lt
    replace LL := hide (LL.out.trans hl)
    replace BX := hide (BX.out.later hl)
    replace BS := hide (BS.out.later hl)
    replace VP := hide (VP.out.later hl)
    have B10 := hide hB
    clear hl hg hB
    go_wp2_with fail
    refine wp_region_held (fun W => (Later w W ∧ Box W w.heap.size 36 [.int .i64 18, .int .u64 (at_ : Int), .int .i64 n, .int .i64 pg, .int .i64 1]) ∧ Box W g10 30 (sc sp)) (fun a b hl h => ⟨⟨h.1.1.trans hl, h.1.2.later hl⟩, h.2.later hl⟩) ⟨⟨LL.out, BX.out⟩, B10.out⟩ [(0, false), (1, false), (2, false), (4, false), (3, true), (5, false), (6, true)] (by kernel_rfl) (by kernel_rfl) (by kernel_rfl) (by kernel_rfl) ?_
    haveI : Nonempty (Held (fun W => (Later w W ∧ Box W w.heap.size 36 [.int .i64 18, .int .u64 (at_ : Int), .int .i64 n, .int .i64 pg, .int .i64 1]) ∧ Box W g10 30 (sc sp))) := ⟨⟨_, ⟨LL.out, BX.out⟩, B10.out⟩⟩
    have e2 := fun p : Held (fun W => (Later w W ∧ Box W w.heap.size 36 [.int .i64 18, .int .u64 (at_ : Int), .int .i64 n, .int .i64 pg, .int .i64 1]) ∧ Box W g10 30 (sc sp)) => p.h.1.2.cell 2
    have s0 := fun p : Held (fun W => (Later w W ∧ Box W w.heap.size 36 [.int .i64 18, .int .u64 (at_ : Int), .int .i64 n, .int .i64 pg, .int .i64 1]) ∧ Box W g10 30 (sc sp)) => p.h.2.cell 0
    have s1 := fun p : Held (fun W => (Later w W ∧ Box W w.heap.size 36 [.int .i64 18, .int .u64 (at_ : Int), .int .i64 n, .int .i64 pg, .int .i64 1]) ∧ Box W g10 30 (sc sp)) => p.h.2.cell 1
    have s2 := fun p : Held (fun W => (Later w W ∧ Box W w.heap.size 36 [.int .i64 18, .int .u64 (at_ : Int), .int .i64 n, .int .i64 pg, .int .i64 1]) ∧ Box W g10 30 (sc sp)) => p.h.2.cell 2
    replace LL := hide (LL.out.trans (Later.refl _).drew)
    replace BX := hide (BX.out.later (Later.refl _).drew)
    replace BS := hide (BS.out.later (Later.refl _).drew)
    replace B10 := hide (B10.out.later (Later.refl _).drew)
    replace VP := hide (VP.out.later (Later.refl _).drew)
    iterate 4 (refine wpJ_mild rfl (fun K hK => ?_); go_simp; refine hK _ ?_; clear hK K)
    refine wpJ_callL (fun a b hl h => ⟨⟨h.1.1.trans hl, h.1.2.later hl⟩, h.2.later hl⟩) rfl (by kernel_rfl) 58 (Plain.of (by kernel_rfl)) [.tmp 39, .tmp 41] _ rfl [vp, .int .i64 n] rfl (fun v W => Bs W v (cutL (pageL pg lun th) n)) ⟨⟨LL.out, BX.out⟩, B10.out⟩ (fun wx hx => cut7_c vp _ n wx (VP.out.later hx) (by have := pageL_len pg lun th; omega) HN.out) ?_
    intro v2 b2 hl2 hr2
    replace LL := hide (LL.out.trans hl2)
    replace BX := hide (BX.out.later hl2)
    replace BS := hide (BS.out.later hl2)
    (clear s0 s1 s2; replace B10 := hide (B10.out.later hl2))
    iterate 1 (refine wpJ_mild rfl (fun K hK => ?_); go_simp; refine hK _ ?_; clear hK K)
    refine wpJ_store rfl rfl 30 (.tmp 7) (.tmp 43) rfl (w.heap.size + 1) (sc sp) rfl rfl Tryz.info_sense (sc_one _) _ _ BS.out (by simp) (fun W hW => ⟨⟨(LL.out.trans hW).setCells (Nat.le_succ _) _ _, (BX.out.later hW).apart _ (by omega) _ _⟩, (B10.out.later hW).apart _ (by have := hg10.out; omega) _ _⟩) ?_
    intro wl hl wz hz
    have BZ : Hid (Box wz (w.heap.size + 1) 30 (sc sp)) := by rw [hz.out]; exact (BS.out.later hl).all _ rfl
    have LZ : Hid (Later w wz) := by rw [hz.out]; exact (LL.out.trans hl).setCells (Nat.le_succ _) _ _
    have VZ := (hr2.later hl).setSns7 (BS.out.later hl) (sc sp) 0
    rw [← hz.out] at VZ
    clear hz hl hr2 hl2 e2
    refine wpJ_nil (fun wn hn => ?_)
    replace BZ := hide (BZ.out.later hn)
    replace LZ := hide (LZ.out.trans hn)
    have VN := hide (VZ.later hn)
    clear hn VZ
    go_wp2
    refine bodyPost_ret (results_tmp_cell' rfl _ _ _ (w.heap.size + 1) 0 rfl _ _ (run_loadVar_mid _ _ _ _ (sc sp) _ BZ.out.range Tryz.underlying30 rfl Tryz.info_sense) rfl) rfl ⟨_, by rw [HR.out], LZ.out, by rw [HR.out]; exact VN.out⟩
end Go.Proofs.YtfakboehmcimpaaGreat

namespace Go.Proofs.YtfakboehmcimpaaGreat
open Go.ChangeShapes Go.WideShapes Go.ChangeAt Go.RowKit
set_option linter.unusedVariables false
set_option maxRecDepth 4000
set_option linter.unusedSimpArgs false
/-! The landed sense: First, Parse. -/
end Go.Proofs.YtfakboehmcimpaaGreat

namespace Go.Proofs.YtfakboehmcimpaaGreat
open Go.ChangeShapes Go.WideShapes Go.ChangeAt Go.RowKit
set_option linter.unusedVariables false
set_option maxRecDepth 4000
set_option linter.unusedSimpArgs false
/-! The landed mode: the pages. -/
/-- bytes of the call's own -/
def MkP (f : FuncId) (xs : Array Value) (n : Nat) (l : List UInt8) : Prop := ∀ w : World, Calls Tryz.prog f xs w fun e w' => ∃ g, e = .returned (.slice (some ⟨g, 0, none⟩) n n) ∧ Later w w' ∧ w.heap.size ≤ g ∧ Box w' g 5 (bv l)
theorem Tryz.info_u8s : (Tryz.prog.info? 5).map (·.size) = some 1 := by kernel_rfl
theorem emptyPage_8 : MkP 125 #[.int .u8 8, .int .u8 18] 20 (pg8 false) := by
  intro w
  have LL := hide (Later.refl w)
  go_enter Tryz.func125, Tryz.ntmps125
  go_wp2_with (refine wpList_makeB rfl (.tmp 8) (.tmp 8) rfl 20 rfl rfl (by decide) ?_)
  intro g w1 hB hl hg
  replace LL := hide (LL.out.trans hl)
  have BX := hide hB
  have HG : Hid (w.heap.size ≤ g) := by rw [Hid, hg.out]; exact Nat.le_refl _
  clear hl hg hB
  go_wp2_with (refine wpList_storeB rfl 5 (.tmp 14) (.tmp 12) rfl g 0 rfl 8 rfl Tryz.info_u8s 5 (List.replicate 20 0) BX.out (by simp) 8 rfl ?_)
  intro w2 hB h2
  have B2 := hide hB
  have L2 : Hid (Later w w2) := by rw [h2.out]; exact LL.out.setCells HG.out _ _
  clear hB h2 BX LL
  go_wp2_with (refine wpList_storeB rfl 5 (.tmp 15) (.tmp 13) rfl g 1 rfl 18 rfl Tryz.info_u8s 5 ((List.replicate 20 0).set 0 8) B2.out (by simp) 18 rfl ?_)
  intro w3 hB h3
  have B3 := hide hB
  have L3 : Hid (Later w w3) := by rw [h3.out]; exact L2.out.setCells HG.out _ _
  clear hB h3 B2 L2
  go_wp2
  go_ret
  exact ⟨g, rfl, L3.out, HG.out, B3.out⟩
theorem emptyPage_28 : MkP 125 #[.int .u8 28, .int .u8 10] 12 (pg28) := by
  intro w
  have LL := hide (Later.refl w)
  go_enter Tryz.func125, Tryz.ntmps125
  go_wp2_with (refine wpList_makeB rfl (.tmp 8) (.tmp 8) rfl 12 rfl rfl (by decide) ?_)
  intro g w1 hB hl hg
  replace LL := hide (LL.out.trans hl)
  have BX := hide hB
  have HG : Hid (w.heap.size ≤ g) := by rw [Hid, hg.out]; exact Nat.le_refl _
  clear hl hg hB
  go_wp2_with (refine wpList_storeB rfl 5 (.tmp 14) (.tmp 12) rfl g 0 rfl 28 rfl Tryz.info_u8s 5 (List.replicate 12 0) BX.out (by simp) 28 rfl ?_)
  intro w2 hB h2
  have B2 := hide hB
  have L2 : Hid (Later w w2) := by rw [h2.out]; exact LL.out.setCells HG.out _ _
  clear hB h2 BX LL
  go_wp2_with (refine wpList_storeB rfl 5 (.tmp 15) (.tmp 13) rfl g 1 rfl 10 rfl Tryz.info_u8s 5 ((List.replicate 12 0).set 0 28) B2.out (by simp) 10 rfl ?_)
  intro w3 hB h3
  have B3 := hide hB
  have L3 : Hid (Later w w3) := by rw [h3.out]; exact L2.out.setCells HG.out _ _
  clear hB h3 B2 L2
  go_wp2
  go_ret
  exact ⟨g, rfl, L3.out, HG.out, B3.out⟩
theorem excPage_c : MkP 102 #[] 12 pg28 := by
  intro w
  go_enter Tryz.func102, Tryz.ntmps102
  go_wp2_with fail
  refine (emptyPage_28 _).mono ?_
  rintro e w1 ⟨g, rfl, hl, hg, hB⟩
  have L := hide hl
  have G := hide hg
  have B := hide hB
  clear hl hg hB
  go_wp2
  go_ret
  exact ⟨g, rfl, L.out, G.out, B.out⟩
theorem cachingPage_c (on : Bool) : MkP 101 #[.bool on] 20 (pg8 on) := by
  intro w
  go_enter Tryz.func101, Tryz.ntmps101
  go_wp2_with fail
  refine (emptyPage_8 _).mono ?_
  rintro e w1 ⟨g, rfl, hl, hg, hB⟩
  have L := hide hl
  have G := hide hg
  have B := hide hB
  clear hl hg hB
  cases on with
  | false =>
    go_wp2
    go_ret
    exact ⟨g, rfl, L.out, G.out, B.out⟩
  | true =>
    go_wp2_with (refine wpList_storeB rfl 5 (.tmp 7) (.const (.int .u8 4)) rfl g 2 rfl 4 rfl Tryz.info_u8s 5 (pg8 false) B.out (by decide) 4 rfl ?_)
    intro w3 hB h3
    have B3 : Hid (Box w3 g 5 (bv (pg8 true))) := hB
    have L3 : Hid (Later w w3) := by rw [h3.out]; exact L.out.setCells G.out _ _
    clear hB h3 B L
    go_wp2
    go_ret
    exact ⟨g, rfl, L3.out, G.out, B3.out⟩
end Go.Proofs.YtfakboehmcimpaaGreat
