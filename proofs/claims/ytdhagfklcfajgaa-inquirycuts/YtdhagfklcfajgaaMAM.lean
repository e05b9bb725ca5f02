import Derived.Test.YtdhagfklcfajgaaMAL
namespace Go.Proofs.Ytdhagfklcfajgaa
open Go.ChangeShapes Go.WideShapes Go.ChangeAt Go.RowKit
set_option linter.unusedVariables false
set_option linter.unusedSimpArgs false

theorem i64_and7 (n : Int) : bits .and .i64 n 7 = n % 8 := by
  have h7 : (BitVec.ofInt 64 7).toNat = 2 ^ 3 - 1 := by decide
  have key : (BitVec.ofInt 64 n &&& BitVec.ofInt 64 7).toNat = (n % ((2 ^ 64 : Nat) : Int)).toNat % 2 ^ 3 := by
    rw [BitVec.toNat_and, BitVec.toNat_ofInt, h7, Nat.and_two_pow_sub_one_eq_mod]
  show IntKind.i64.wrap ((BitVec.ofInt 64 n &&& BitVec.ofInt 64 7).toNat : Nat) = n % 8
  rw [key, IntKind.wrap_i64]
  omega
theorem serial7_c : ISerial7 := by
  intro lun w h
  rcases (show lun % 8 = 0 ∨ lun % 8 = 1 ∨ lun % 8 = 2 ∨ lun % 8 = 3 ∨ lun % 8 = 4 ∨ lun % 8 = 5 ∨ lun % 8 = 6 ∨ lun % 8 = 7 by omega) with h8 | h8 | h8 | h8 | h8 | h8 | h8 | h8
  · have hb : bits BinOp.and IntKind.i64 lun 7 = 0 := by rw [i64_and7]; omega
    have he : Utf8.encode 48 = ⟨#[48]⟩ := by decide
    have HS : Hid (strOf (serL lun) = ⟨#[82, 84, 48, 48, 48, 48, 48, 48]⟩) := by rw [Hid, serL, show (lun % 8).toNat = 0 by omega]; rfl
    clear h h8
    go_enter Try.func10, Try.ntmps10
    go_wp2
    go_ret
    exact ⟨by rw [HS.out]; rfl, Later.refl _⟩
  · have hb : bits BinOp.and IntKind.i64 lun 7 = 1 := by rw [i64_and7]; omega
    have he : Utf8.encode 49 = ⟨#[49]⟩ := by decide
    have HS : Hid (strOf (serL lun) = ⟨#[82, 84, 48, 48, 48, 48, 48, 49]⟩) := by rw [Hid, serL, show (lun % 8).toNat = 1 by omega]; rfl
    clear h h8
    go_enter Try.func10, Try.ntmps10
    go_wp2
    go_ret
    exact ⟨by rw [HS.out]; rfl, Later.refl _⟩
  · have hb : bits BinOp.and IntKind.i64 lun 7 = 2 := by rw [i64_and7]; omega
    have he : Utf8.encode 50 = ⟨#[50]⟩ := by decide
    have HS : Hid (strOf (serL lun) = ⟨#[82, 84, 48, 48, 48, 48, 48, 50]⟩) := by rw [Hid, serL, show (lun % 8).toNat = 2 by omega]; rfl
    clear h h8
    go_enter Try.func10, Try.ntmps10
    go_wp2
    go_ret
    exact ⟨by rw [HS.out]; rfl, Later.refl _⟩
  · have hb : bits BinOp.and IntKind.i64 lun 7 = 3 := by rw [i64_and7]; omega
    have he : Utf8.encode 51 = ⟨#[51]⟩ := by decide
    have HS : Hid (strOf (serL lun) = ⟨#[82, 84, 48, 48, 48, 48, 48, 51]⟩) := by rw [Hid, serL, show (lun % 8).toNat = 3 by omega]; rfl
    clear h h8
    go_enter Try.func10, Try.ntmps10
    go_wp2
    go_ret
    exact ⟨by rw [HS.out]; rfl, Later.refl _⟩
  · have hb : bits BinOp.and IntKind.i64 lun 7 = 4 := by rw [i64_and7]; omega
    have he : Utf8.encode 52 = ⟨#[52]⟩ := by decide
    have HS : Hid (strOf (serL lun) = ⟨#[82, 84, 48, 48, 48, 48, 48, 52]⟩) := by rw [Hid, serL, show (lun % 8).toNat = 4 by omega]; rfl
    clear h h8
    go_enter Try.func10, Try.ntmps10
    go_wp2
    go_ret
    exact ⟨by rw [HS.out]; rfl, Later.refl _⟩
  · have hb : bits BinOp.and IntKind.i64 lun 7 = 5 := by rw [i64_and7]; omega
    have he : Utf8.encode 53 = ⟨#[53]⟩ := by decide
    have HS : Hid (strOf (serL lun) = ⟨#[82, 84, 48, 48, 48, 48, 48, 53]⟩) := by rw [Hid, serL, show (lun % 8).toNat = 5 by omega]; rfl
    clear h h8
    go_enter Try.func10, Try.ntmps10
    go_wp2
    go_ret
    exact ⟨by rw [HS.out]; rfl, Later.refl _⟩
  · have hb : bits BinOp.and IntKind.i64 lun 7 = 6 := by rw [i64_and7]; omega
    have he : Utf8.encode 54 = ⟨#[54]⟩ := by decide
    have HS : Hid (strOf (serL lun) = ⟨#[82, 84, 48, 48, 48, 48, 48, 54]⟩) := by rw [Hid, serL, show (lun % 8).toNat = 6 by omega]; rfl
    clear h h8
    go_enter Try.func10, Try.ntmps10
    go_wp2
    go_ret
    exact ⟨by rw [HS.out]; rfl, Later.refl _⟩
  · have hb : bits BinOp.and IntKind.i64 lun 7 = 7 := by rw [i64_and7]; omega
    have he : Utf8.encode 55 = ⟨#[55]⟩ := by decide
    have HS : Hid (strOf (serL lun) = ⟨#[82, 84, 48, 48, 48, 48, 48, 55]⟩) := by rw [Hid, serL, show (lun % 8).toNat = 7 by omega]; rfl
    clear h h8
    go_enter Try.func10, Try.ntmps10
    go_wp2
    go_ret
    exact ⟨by rw [HS.out]; rfl, Later.refl _⟩
set_option maxHeartbeats 1000000 in
theorem std7_c : IStd7 := by
  intro there w
  have HS : Hid (stdL there = (([firstB there, 128, 6, 2, 31, 0, 0, 2] ++ [82, 69, 84, 73, 67, 85, 76, 69]) ++ textI [71, 65, 68, 71, 69, 84, 32, 68, 73, 83, 75] 16) ++ [48, 48, 48, 49]) := rfl
  go_enter Try.func14, Try.ntmps14
  go_wp2_with fail
  refine (first7_c there _).mono ?_
  rintro e w' ⟨rfl, hw⟩
  have hw2 := hw.symm
  subst hw2
  clear hw
  generalize firstB there = f at *
  go_wp2_with (at_builtin; refine wpList_append_text rfl (.tmp 7) (.const (.string ⟨#[82, 69, 84, 73, 67, 85, 76, 69]⟩)) rfl w.heap.size 8 _ [f, 128, 6, 2, 31, 0, 0, 2] [82, 69, 84, 73, 67, 85, 76, 69] rfl rfl (owns_box (Box.new w 5 #[.int .u8 (f.toNat : Int), .int .u8 128, .int .u8 6, .int .u8 2, .int .u8 31, .int .u8 0, .int .u8 0, .int .u8 2]) rfl (by decide) (Nat.le_refl _)) (by decide) (by decide) (by simp) w ((Later.refl w).alloc _) ?_)
  intro v2 w2 ho hb
  have O2 := hide ho
  have L2 : Hid (Later w w2) := hb
  clear ho hb
  go_wp2_with fail
  refine (text_c ⟨#[71, 65, 68, 71, 69, 84, 32, 68, 73, 83, 75]⟩ 16 _ _ (Nat.le_refl _) (by decide)).mono ?_
  rintro e w3 ⟨v3, rfl, hl, ho⟩
  replace O2 := hide (owns_later O2.out hl)
  replace L2 := hide (L2.out.trans hl)
  have V3 := hide (Bs.of_owns ho).1
  clear ho hl
  go_wp2_with (at_builtin; refine wpList_append_bs rfl (.tmp 9) (.tmp 10) rfl w.heap.size v2 16 _ rfl O2.out v3 _ rfl V3.out (by decide) L2.out.size w L2.out ?_)
  intro v4 w4 ho hb hg
  have O4 := hide ho
  have L4 : Hid (Later w w4) := hb
  clear ho hb hg
  go_wp2_with (at_builtin; refine wpList_append_text rfl (.tmp 12) (.const (.string ⟨#[48, 48, 48, 49]⟩)) rfl w.heap.size 32 v4 _ [48, 48, 48, 49] rfl rfl O4.out (by decide) (by decide) L4.out.size w L4.out ?_)
  intro v5 w5 ho hb
  have V5 := hide (Bs.of_owns ho).1
  have L5 : Hid (Later w w5) := hb
  clear ho hb
  go_wp2
  go_ret
  exact ⟨_, rfl, L5.out, by rw [HS.out]; exact V5.out⟩
end Go.Proofs.Ytdhagfklcfajgaa

namespace Go.Proofs.Ytdhagfklcfajgaa
open Go.ChangeShapes Go.WideShapes Go.ChangeAt Go.RowKit
set_option linter.unusedVariables false
set_option linter.unusedSimpArgs false

/-! The landed inquiry: what comes behind a page's head. -/
def bodyL (page lun : Int) : List UInt8 :=
  if page = 0 then [0, 128, 131, 176]
  else if page = 128 then serL lun
  else if page = 131 then [2, 1, 0, 16] ++ ([82, 69, 84, 73, 67, 85, 76, 69] ++ serL lun)
  else if page = 176 then [0, 0, 0, 0, 0, 0, 0, 64] ++ z52
  else []
def isPage (page : Int) : Bool := decide (page = 0 ∨ page = 128 ∨ page = 131 ∨ page = 176)
theorem body_0 (lun : Int) (w : World) (h : In64 lun) : Calls Try.prog 22 #[.int .i64 0, .int .i64 lun] w fun e w' => ∃ v, e = .returned (.tuple #[v, .bool (isPage 0)]) ∧ Later w w' ∧ Bs w' v (bodyL 0 lun) := by
  have HL : Hid (bodyL 0 lun = [0, 128, 131, 176]) := rfl
  have LL : Hid (Later w (w.alloc (.cells #[.int .u8 0, .int .u8 128, .int .u8 131, .int .u8 176] 5))) := (Later.refl w).alloc _
  have VB : Hid (Bs (w.alloc (.cells #[.int .u8 0, .int .u8 128, .int .u8 131, .int .u8 176] 5)) (.slice (some ⟨w.heap.size, 0, none⟩) 4 4) [0, 128, 131, 176]) := bs_of_box (Box.new w _ _) rfl rfl (by decide)
  clear h
  go_enter Try.func22, Try.ntmps22
  go_wp2
  go_ret2
  exact ⟨_, rfl, LL.out, by rw [HL.out]; exact VB.out⟩
theorem body_128 (lun : Int) (w : World) (h : In64 lun) : Calls Try.prog 22 #[.int .i64 128, .int .i64 lun] w fun e w' => ∃ v, e = .returned (.tuple #[v, .bool (isPage 128)]) ∧ Later w w' ∧ Bs w' v (bodyL 128 lun) := by
  have HL : Hid (bodyL 128 lun = serL lun) := rfl
  have H := hide h
  clear h
  go_enter Try.func22, Try.ntmps22
  go_wp2_with fail
  refine (serial7_c lun _ H.out).mono ?_
  rintro e w1 ⟨rfl, hl⟩
  have LL := hide hl
  clear hl
  go_wp2_with (refine wpList_strbytes rfl (.tmp 14) rfl (serL lun) rfl (by rw [serL_len]; decide) ?_)
  intro v4 w4 hb4 hl4
  replace LL := hide (LL.out.trans hl4)
  have V4 := hide hb4
  clear hb4 hl4
  go_wp2
  go_ret2
  exact ⟨_, rfl, LL.out, by rw [HL.out]; exact V4.out⟩
set_option maxHeartbeats 1000000 in
theorem body_131 (lun : Int) (w : World) (h : In64 lun) : Calls Try.prog 22 #[.int .i64 131, .int .i64 lun] w fun e w' => ∃ v, e = .returned (.tuple #[v, .bool (isPage 131)]) ∧ Later w w' ∧ Bs w' v (bodyL 131 lun) := by
  have HL : Hid (bodyL 131 lun = [2, 1, 0, 16] ++ ([82, 69, 84, 73, 67, 85, 76, 69] ++ serL lun)) := rfl
  have H := hide h
  clear h
  have hcat := ret_ser (serL lun)
  have hs8 : (strOf (serL lun)).size = 8 := rfl
  have hs16 : (strOf ([82, 69, 84, 73, 67, 85, 76, 69] ++ serL lun)).size = 16 := rfl
  go_enter Try.func22, Try.ntmps22
  go_wp2_with fail
  refine (serial7_c lun _ H.out).mono ?_
  rintro e w1 ⟨rfl, hl⟩
  have LL := hide hl
  clear hl
  go_wp2_with (at_builtin; refine wpList_append_text rfl (.tmp 24) (.tmp 25) rfl w1.heap.size 4 _ [2, 1, 0, 16] ([82, 69, 84, 73, 67, 85, 76, 69] ++ serL lun) rfl rfl (owns_box (Box.new w1 5 #[.int .u8 2, .int .u8 1, .int .u8 0, .int .u8 16]) rfl (by decide) (Nat.le_refl _)) (by decide) (by rw [List.length_append, serL_len]; decide) (by simp) w1 ((Later.refl w1).alloc _) ?_)
  intro v5 w5 ho hb
  have V5 := hide (Bs.of_owns ho).1
  have L5 : Later w1 w5 := hb
  replace LL := hide (LL.out.trans L5)
  clear ho hb L5
  go_wp2
  go_ret2
  exact ⟨_, rfl, LL.out, by rw [HL.out]; exact V5.out⟩
theorem body_176 (lun : Int) (w : World) (h : In64 lun) : Calls Try.prog 22 #[.int .i64 176, .int .i64 lun] w fun e w' => ∃ v, e = .returned (.tuple #[v, .bool (isPage 176)]) ∧ Later w w' ∧ Bs w' v (bodyL 176 lun) := by
  have HL : Hid (bodyL 176 lun = [0, 0, 0, 0, 0, 0, 0, 64] ++ z52) := rfl
  clear h
  go_enter Try.func22, Try.ntmps22
  go_wp2_with (at_builtin; refine wpList_append_zeros rfl (.tmp 29) rfl w.heap.size w.heap.size 8 8 [0, 0, 0, 0, 0, 0, 0, 64] rfl (owns_box (Box.new w 5 #[.int .u8 0, .int .u8 0, .int .u8 0, .int .u8 0, .int .u8 0, .int .u8 0, .int .u8 0, .int .u8 64]) rfl (by decide) (Nat.le_refl _)) (by decide) (by simp) w ((Later.refl w).alloc _) ?_)
  intro v5 w5 ho hb
  have V5 := hide (Bs.of_owns ho).1
  have L5 : Hid (Later w w5) := hb
  clear ho hb
  go_wp2
  go_ret2
  exact ⟨_, rfl, L5.out, by rw [HL.out]; exact V5.out⟩
theorem body_other (page lun : Int) (w : World) (h0 : page ≠ 0) (h1 : page ≠ 128) (h2 : page ≠ 131) (h3 : page ≠ 176) : Calls Try.prog 22 #[.int .i64 page, .int .i64 lun] w fun e w' => ∃ v, e = .returned (.tuple #[v, .bool (isPage page)]) ∧ Later w w' ∧ Bs w' v (bodyL page lun) := by
  have HL : Hid (bodyL page lun = []) := by simp [Hid, bodyL, h0, h1, h2, h3]
  have HP : Hid (isPage page = false) := by simp [Hid, isPage, h0, h1, h2, h3]
  go_enter Try.func22, Try.ntmps22
  go_wp2
  go_ret2
  rw [HP.out, HL.out]
  exact ⟨_, rfl, Later.refl _, Bs.nil _⟩
theorem body_c (page lun : Int) (w : World) (h : In64 lun) : Calls Try.prog 22 #[.int .i64 page, .int .i64 lun] w fun e w' => ∃ v, e = .returned (.tuple #[v, .bool (isPage page)]) ∧ Later w w' ∧ Bs w' v (bodyL page lun) := by
  by_cases h0 : page = 0
  · subst h0; exact body_0 lun w h
  by_cases h1 : page = 128
  · subst h1; exact body_128 lun w h
  by_cases h2 : page = 131
  · subst h2; exact body_131 lun w h
  by_cases h3 : page = 176
  · subst h3; exact body_176 lun w h
  exact body_other page lun w h0 h1 h2 h3
end Go.Proofs.Ytdhagfklcfajgaa

namespace Go.Proofs.Ytdhagfklcfajgaa
open Go.ChangeShapes Go.WideShapes Go.ChangeAt Go.RowKit
set_option linter.unusedVariables false
set_option linter.unusedSimpArgs false

/-! The landed inquiry: Page. -/
theorem body_no {page lun : Int} (h : isPage page = false) (there : Bool) : pageS page = (5, 36, 0) ∧ pageL page lun there = [] := by
  simp [isPage] at h
  simp [pageS, pageL, h]
theorem body_yes {page lun : Int} (h : isPage page = true) (there : Bool) : pageS page = (0, 0, 0) ∧ (bodyL page lun).length ≤ 60 ∧ pageL page lun there = ([firstB there, UInt8.ofNat (page % 256).toNat] ++ putBeI (bodyL page lun).length 2) ++ bodyL page lun := by
  simp [isPage] at h
  have e4 : putBeI 4 2 = [0, 4] := by decide
  have e8 : putBeI 8 2 = [0, 8] := by decide
  have e20 : putBeI 20 2 = [0, 20] := by decide
  have e60 : putBeI 60 2 = [0, 60] := by decide
  rcases h with rfl | rfl | rfl | rfl
  · have hl : (bodyL 0 lun).length = 4 := rfl
    rw [hl, e4]
    exact ⟨rfl, by decide, rfl⟩
  · have hl : (bodyL 128 lun).length = 8 := rfl
    rw [hl, e8]
    exact ⟨rfl, by decide, rfl⟩
  · have hl : (bodyL 131 lun).length = 20 := rfl
    rw [hl, e20]
    exact ⟨rfl, by decide, rfl⟩
  · have hl : (bodyL 176 lun).length = 60 := by simp [bodyL, z52_len]
    rw [hl, e60]
    exact ⟨rfl, by decide, rfl⟩
theorem u8_of (x : Int) : ((UInt8.ofNat (x % 256).toNat).toNat : Int) = x % 256 := by
  rw [UInt8.toNat_ofNat']; omega
set_option maxHeartbeats 2000000 in
theorem page7_c : IPage7 := by
  intro page lun there w hp hlun
  have H2 := hide hlun
  clear hlun hp
  have LL := hide ((Later.refl w).alloc (.cells #[.int .i64 0, .int .i64 0, .int .i64 0] 28))
  have BS : Hid (Box _ w.heap.size 28 (sc (0, 0, 0))) := Box.new w 28 #[.int .i64 0, .int .i64 0, .int .i64 0]
  go_enter Try.func12, Try.ntmps12
  go_wp2_with fail
  have hsz : Hid (w.heap.size < (w.alloc (.cells #[.int .i64 0, .int .i64 0, .int .i64 0] 28)).heap.size) := by simp [Hid]
  generalize w.alloc (.cells #[.int .i64 0, .int .i64 0, .int .i64 0] 28) = w1 at *
  refine (body_c page lun _ H2.out).mono ?_
  rintro e w2 ⟨vb, rfl, hl, hv⟩
  replace LL := hide (LL.out.trans hl)
  replace BS := hide (BS.out.later hl)
  have VB := hide hv
  clear hl hv
  cases hi : isPage page with
  | false =>
    have HN := hide (body_no (lun := lun) hi there)
    clear hi
    go_wp2_with fail
    refine (con_Field _).mono ?_
    rintro e w3 ⟨rfl, hl⟩
    replace LL := hide (LL.out.trans hl)
    replace BS := hide (BS.out.later hl)
    clear hl
    go_wp2_with (refine wpList_storeU rfl 28 (.tmp 7) (.tmp 19) rfl w.heap.size 0 rfl (sc (5, 36, 0)) rfl Try.info_sense (sc_one _) _ _ BS.out (by simp) ?_)
    intro wz hz
    have BZ : Hid (Box wz w.heap.size 28 (sc (5, 36, 0))) := by rw [hz.out]; exact BS.out.all _ rfl
    have LZ : Hid (Later w wz) := by rw [hz.out]; exact LL.out.setCells (Nat.le_refl _) _ _
    clear hz
    go_wp2
    refine bodyPost_ret (results_tmp_cell' rfl _ _ _ w.heap.size 0 rfl _ _ (run_loadVar_mid _ _ _ _ (sc (5, 36, 0)) _ BZ.out.range Try.underlying28 rfl Try.info_sense) rfl) rfl ⟨_, by rw [HN.out.1], LZ.out, by rw [HN.out.2]; exact Bs.nil _⟩
  | true =>
    have HY := hide (body_yes (lun := lun) hi there)
    clear hi
    have VB2 := VB.out
    obtain ⟨hlm, ab, cb, rfl, hcb, hx⟩ := VB2
    clear hlm hcb hx
    obtain ⟨B, hB⟩ : ∃ B, B = bodyL page lun := ⟨_, rfl⟩
    rw [← hB] at VB HY ⊢
    have HB := hide hB
    clear hB
    obtain ⟨n, hn⟩ : ∃ n, n = B.length := ⟨_, rfl⟩
    have hn60 : n ≤ 60 := by rw [hn]; exact HY.out.2.1
    rw [← hn] at VB HY ⊢
    have HNn := hide hn
    clear hn
    have hw64 : IntKind.u64.wrap (n : Int) = (n : Int) := by rw [IntKind.wrap_u64]; omega
    go_wp2_with fail
    refine (first7_c there _).mono ?_
    rintro e w' ⟨rfl, hw⟩
    have hw2 := hw.symm
    subst hw2
    clear hw
    generalize firstB there = f at *
    go_wp2_with fail
    have BH : Hid (Box (w2.alloc (.cells #[.int .u8 (f.toNat : Int), .int .u8 (page % 256)] 5)) w2.heap.size 5 (bv [f, UInt8.ofNat (page % 256).toNat])) := by
      have hh : bv [f, UInt8.ofNat (page % 256).toNat] = [.int .u8 (f.toNat : Int), .int .u8 (page % 256)] := by
        show [Value.int .u8 (f.toNat : Int), .int .u8 ((UInt8.ofNat (page % 256).toNat).toNat : Int)] = _
        rw [u8_of]
      rw [Hid, hh]
      exact Box.new w2 _ _
    have OH : Hid _ := owns_box (B := w2.heap.size) (n := 2) BH.out rfl (by decide) (Nat.le_refl _)
    have LH : Hid (Later w2 (w2.alloc (.cells #[.int .u8 (f.toNat : Int), .int .u8 (page % 256)] 5))) := (Later.refl w2).alloc _
    clear BH
    refine (putBig_c n 2 _ _ (Nat.le_refl _) (by omega)).mono ?_
    rintro e w3 ⟨v3, rfl, hl, ho⟩
    replace OH := hide (owns_later OH.out hl)
    replace LH := hide (LH.out.trans hl)
    have V3 := hide (Bs.of_owns ho).1
    clear ho hl
    go_wp2_with (at_builtin; refine wpList_append_bs rfl (.tmp 25) (.tmp 29) rfl w2.heap.size _ 2 _ rfl OH.out v3 _ rfl V3.out (by rw [show (putBeI n 2).length = 2 from putBe_length _ _]; decide) LH.out.size w2 LH.out ?_)
    intro v4 w4 ho hb hg
    rw [show (putBeI n 2).length = 2 from putBe_length _ _] at ho
    have O4 := hide ho
    have L4 : Hid (Later w2 w4) := hb
    clear ho hb hg OH LH V3
    replace VB := hide (VB.out.later L4.out)
    go_wp2_with (at_builtin; refine wpList_append_bs rfl (.tmp 31) (.tmp 32) rfl w2.heap.size v4 4 _ rfl O4.out _ B rfl VB.out (by have := HNn.out; omega) L4.out.size w2 L4.out ?_)
    intro v5 w5 ho hb hg
    have V5 := hide (Bs.of_owns ho).1
    have L5 : Later w2 w5 := hb
    replace LL := hide (LL.out.trans L5)
    replace BS := hide (BS.out.later L5)
    clear ho hb hg O4 L4 L5 VB
    go_wp2_with (refine wpList_storeU rfl 28 (.tmp 7) (.tmp 34) rfl w.heap.size 0 rfl (sc (0, 0, 0)) rfl Try.info_sense (sc_one _) _ _ BS.out (by simp) ?_)
    intro wz hz
    have BZ : Hid (Box wz w.heap.size 28 (sc (0, 0, 0))) := by rw [hz.out]; exact BS.out.all _ rfl
    have LZ : Hid (Later w wz) := by rw [hz.out]; exact LL.out.setCells (Nat.le_refl _) _ _
    have VZ := V5.out.setSns7 BS.out (sc (0, 0, 0)) 0
    rw [← hz.out] at VZ
    clear hz
    go_wp2
    refine bodyPost_ret (results_tmp_cell' rfl _ _ _ w.heap.size 0 rfl _ _ (run_loadVar_mid _ _ _ _ (sc (0, 0, 0)) _ BZ.out.range Try.underlying28 rfl Try.info_sense) rfl) rfl ⟨_, by rw [HY.out.1], LZ.out, by rw [HY.out.2.2]; exact VZ⟩
end Go.Proofs.Ytdhagfklcfajgaa

namespace Go.Proofs.Ytdhagfklcfajgaa
open Go.ChangeShapes Go.WideShapes Go.ChangeAt Go.RowKit
set_option linter.unusedVariables false
set_option linter.unusedSimpArgs false

/-! The landed inquiry: Cut. -/
set_option maxHeartbeats 1000000 in
theorem cut7_c : ICut7 := by
  intro v l n w h hs hn64
  have HB := hide h
  obtain ⟨hlm, ad, cap, rfl, hcap, _⟩ := h
  clear hlm
  obtain ⟨k, hk⟩ : ∃ k, k = l.length := ⟨_, rfl⟩
  rw [← hk] at HB hcap hs ⊢
  have HK := hide hk
  clear hk
  by_cases h0 : n < 0
  · have HC : Hid (cutL l n = []) := by rw [Hid, cutL, if_pos h0]
    clear hn64
    go_enter Try.func17, Try.ntmps17
    go_wp2
    go_ret
    exact ⟨_, rfl, Later.refl _, by rw [HC.out]; exact Bs.nil _⟩
  have hb0 : decide (n < 0) = false := by simp; omega
  obtain ⟨m, hm⟩ : ∃ m : Nat, m = min n.toNat k := ⟨_, rfl⟩
  have hmin : (if (k : Int) < n then (k : Int) else n) = (m : Int) := by split <;> omega
  have hmk : m ≤ k := by omega
  have HC : Hid (cutL l n = l.take m) := by
    rw [Hid, cutL, if_neg h0]
    by_cases hh : n.toNat ≤ k
    · rw [show m = n.toNat by omega]
    · rw [List.take_of_length_le (by have := HK.out; omega), List.take_of_length_le (by have := HK.out; omega)]
  have s1 : (m : Int) ≤ (cap : Int) := by omega
  have HM := hide hm
  clear hm h0 hn64
  go_enter Try.func17, Try.ntmps17
  have Ex : Hid ((w.alloc (.cells #[] 5)).ownsRow w.heap.size 5 1 (.slice (some ⟨w.heap.size, 0, none⟩) 0 0) 0 (bv [])) := World.ownsRow_lit w #[] 0 (Nat.le_refl _) (by simp [maxLen]) rfl
  have LEx : Hid (Below w.heap.size w (w.alloc (.cells #[] 5))) := (Below.refl _ _).alloc (Nat.le_refl _) _
  have Ax : Hid (Bs (w.alloc (.cells #[] 5)) (.slice ad m cap) (l.take m)) := (HB.out.cut7 m hmk).later LEx.out
  go_wp2_with (at_builtin; refine wpList_append_bs rfl (.tmp 7) (.tmp 13) rfl w.heap.size _ 0 [] rfl Ex.out _ (l.take m) rfl Ax.out (by simp; omega) (by simp) w LEx.out ?_)
  intro v3 w3 ho hb hg
  have V3 := hide (Bs.of_owns ho).1
  have L3 : Hid (Later w w3) := hb
  clear ho hb hg Ex LEx Ax
  go_wp2
  go_ret
  exact ⟨_, rfl, L3.out, by rw [HC.out]; exact V3.out⟩
end Go.Proofs.Ytdhagfklcfajgaa

namespace Go.Proofs.Ytdhagfklcfajgaa
open Go.ChangeShapes Go.WideShapes Go.ChangeAt Go.RowKit
set_option linter.unusedVariables false
set_option linter.unusedSimpArgs false

/-! The landed inquiry: Answer. -/
set_option maxHeartbeats 4000000 in
theorem ans7_c : IAns7 := by
  intro c lun luns w hc hlun hluns
  have HN : Hid (In64 c.2.2.1) := hc.2.2.1
  have HPg : Hid (In64 c.2.2.2.1) := hc.2.2.2.1
  have HLun := hide hlun
  clear hc hlun hluns
  obtain ⟨op, at_, n, pg, bt⟩ := c
  simp only at HN HPg
  have BX := hide ((Box.new w 24 #[.int .i64 op, .int .u64 (at_ : Int), .int .i64 n, .int .i64 pg, .int .i64 bt]).alloc (.cells #[.int .i64 0, .int .i64 0, .int .i64 0] 28))
  have BS : Hid (Box _ (w.heap.size + 1) 28 (sc (0, 0, 0))) := Box.new' (w.alloc (.cells #[.int .i64 op, .int .u64 (at_ : Int), .int .i64 n, .int .i64 pg, .int .i64 bt] 24)) 28 #[.int .i64 0, .int .i64 0, .int .i64 0] _ rfl _ (by simp)
  have LL := hide (((Later.refl w).alloc (.cells #[.int .i64 op, .int .u64 (at_ : Int), .int .i64 n, .int .i64 pg, .int .i64 bt] 24)).alloc (.cells #[.int .i64 0, .int .i64 0, .int .i64 0] 28))
  by_cases hop : op = 18
  case neg =>
    have HR : Hid (ansR (op, at_, n, pg, bt) lun luns = ([], (5, 36, 0))) := by simp [Hid, ansR, hop]
    have hopb : (op != 18) = true := by simp [hop]
    clear hop
    go_enter Try.func8, Try.ntmps8
    go_wp2_with fail
    generalize ((w.alloc (.cells #[.int .i64 op, .int .u64 (at_ : Int), .int .i64 n, .int .i64 pg, .int .i64 bt] 24)).alloc (.cells #[.int .i64 0, .int .i64 0, .int .i64 0] 28)) = w1 at *
    refine (con_Field _).mono ?_
    rintro e w2 ⟨rfl, hl⟩
    replace LL := hide (LL.out.trans hl)
    replace BS := hide (BS.out.later hl)
    clear hl
    go_wp2_with (refine wpList_storeU rfl 28 (.tmp 7) (.tmp 14) rfl (w.heap.size + 1) 0 rfl (sc (5, 36, 0)) rfl Try.info_sense (sc_one _) _ _ BS.out (by simp) ?_)
    intro wz hz
    have BZ : Hid (Box wz (w.heap.size + 1) 28 (sc (5, 36, 0))) := by rw [hz.out]; exact BS.out.all _ rfl
    have LZ : Hid (Later w wz) := by rw [hz.out]; exact LL.out.setCells (Nat.le_succ _) _ _
    clear hz
    go_wp2
    refine bodyPost_ret (results_tmp_cell' rfl _ _ _ (w.heap.size + 1) 0 rfl _ _ (run_loadVar_mid _ _ _ _ (sc (5, 36, 0)) _ BZ.out.range Try.underlying28 rfl Try.info_sense) rfl) rfl ⟨_, by rw [HR.out], LZ.out, by rw [HR.out]; exact (Bs.nil _)⟩
  subst hop
  have HT : Hid (thereB lun luns = (decide (0 ≤ lun) && decide (lun < luns))) := rfl
  have HA : Hid (ansR (18, at_, n, pg, bt) lun luns = if bt ≠ 1 then (cutL (stdL (thereB lun luns)) n, (0, 0, 0)) else (cutL (pageL pg lun (thereB lun luns)) n, pageS pg)) := by simp [Hid, ansR]
  generalize thereB lun luns = th at *
  have x0 := BX.out.cell 0
  have x1 := BX.out.cell 1
  have x2 := BX.out.cell 2
  have x3 := BX.out.cell 3
  have x4 := BX.out.cell 4
  go_enter Try.func8, Try.ntmps8
  cases ha : decide (0 ≤ lun) with
  | false =>
    have ht : th = false := by rw [HT.out, ha]; rfl
    subst ht
    clear HT
    by_cases hb : bt = 1
    case neg =>
      have hbb : (bt != 1) = true := by simp [hb]
      have HR : Hid (ansR (18, at_, n, pg, bt) lun luns = (cutL (stdL false) n, (0, 0, 0))) := by rw [Hid, HA.out, if_pos hb]
      clear hb
      go_wp2_with fail
      clear x0 x1 x2 x3 x4
      generalize ((w.alloc (.cells #[.int .i64 18, .int .u64 (at_ : Int), .int .i64 n, .int .i64 pg, .int .i64 bt] 24)).alloc (.cells #[.int .i64 0, .int .i64 0, .int .i64 0] 28)) = w1 at *
      refine wp_region_held (fun W => Later w W ∧ Box W w.heap.size 24 [.int .i64 18, .int .u64 (at_ : Int), .int .i64 n, .int .i64 pg, .int .i64 bt]) (fun a b hl h => ⟨h.1.trans hl, h.2.later hl⟩) ⟨LL.out, BX.out⟩ [(0, false), (2, false), (3, false), (5, false), (1, true), (4, true), (6, false), (7, true)] (by kernel_rfl) (by kernel_rfl) (by kernel_rfl) (by kernel_rfl) ?_
      haveI : Nonempty (Held (fun W => Later w W ∧ Box W w.heap.size 24 [.int .i64 18, .int .u64 (at_ : Int), .int .i64 n, .int .i64 pg, .int .i64 bt])) := ⟨⟨_, LL.out, BX.out⟩⟩
      have e2 := fun p : Held (fun W => Later w W ∧ Box W w.heap.size 24 [.int .i64 18, .int .u64 (at_ : Int), .int .i64 n, .int .i64 pg, .int .i64 bt]) => p.h.2.cell 2
      replace LL := hide (LL.out.trans (Later.refl _).drew)
      replace BX := hide (BX.out.later (Later.refl _).drew)
      replace BS := hide (BS.out.later (Later.refl _).drew)
      iterate 4 (refine wpJ_mild rfl (fun K hK => ?_); go_simp; refine hK _ ?_; clear hK K)
      refine wpJ_callL (fun a b hl h => ⟨h.1.trans hl, h.2.later hl⟩) rfl (by kernel_rfl) 14 (Plain.of (by kernel_rfl)) [.tmp 25] _ rfl [.bool false] rfl (fun v W => Bs W v (stdL false)) ⟨LL.out, BX.out⟩ (fun wx hx => std7_c false wx) ?_
      intro v1 b1 hl1 hr1
      replace LL := hide (LL.out.trans hl1)
      replace BX := hide (BX.out.later hl1)
      replace BS := hide (BS.out.later hl1)
      clear hl1
      refine wpJ_callL (fun a b hl h => ⟨h.1.trans hl, h.2.later hl⟩) rfl (by kernel_rfl) 17 (Plain.of (by kernel_rfl)) [.tmp 26, .tmp 28] _ rfl [v1, .int .i64 n] rfl (fun v W => Bs W v (cutL (stdL false) n)) ⟨LL.out, BX.out⟩ (fun wx hx => cut7_c v1 _ n wx (hr1.later hx) (by rw [stdL_len]; decide) HN.out) ?_
      intro v2 b2 hl2 hr2
      replace LL := hide (LL.out.trans hl2)
      replace BX := hide (BX.out.later hl2)
      replace BS := hide (BS.out.later hl2)
      clear hr1
      iterate 1 (refine wpJ_mild rfl (fun K hK => ?_); go_simp; refine hK _ ?_; clear hK K)
      refine wpJ_store rfl rfl 28 (.tmp 7) (.tmp 30) rfl (w.heap.size + 1) (sc (0, 0, 0)) rfl rfl Try.info_sense (sc_one _) _ _ BS.out (by simp) (fun W hW => ⟨(LL.out.trans hW).setCells (Nat.le_succ _) _ _, (BX.out.later hW).apart _ (by omega) _ _⟩) ?_
      intro wl hl wz hz
      have BZ : Hid (Box wz (w.heap.size + 1) 28 (sc (0, 0, 0))) := by rw [hz.out]; exact (BS.out.later hl).all _ rfl
      have LZ : Hid (Later w wz) := by rw [hz.out]; exact (LL.out.trans hl).setCells (Nat.le_succ _) _ _
      have VZ := (hr2.later hl).setSns7 (BS.out.later hl) (sc (0, 0, 0)) 0
      rw [← hz.out] at VZ
      clear hz hl hr2 hl2 e2
      refine wpJ_nil (fun wn hn => ?_)
      replace BZ := hide (BZ.out.later hn)
      replace LZ := hide (LZ.out.trans hn)
      have VN := hide (VZ.later hn)
      clear hn VZ
      go_wp2
      refine bodyPost_ret (results_tmp_cell' rfl _ _ _ (w.heap.size + 1) 0 rfl _ _ (run_loadVar_mid _ _ _ _ (sc (0, 0, 0)) _ BZ.out.range Try.underlying28 rfl Try.info_sense) rfl) rfl ⟨_, by rw [HR.out], LZ.out, by rw [HR.out]; exact VN.out⟩
    subst hb
    have HR : Hid (ansR (18, at_, n, pg, 1) lun luns = (cutL (pageL pg lun false) n, pageS pg)) := by rw [Hid, HA.out, if_neg (by simp)]
    go_wp2_with fail
    clear x0 x1 x2 x3 x4
    generalize ((w.alloc (.cells #[.int .i64 18, .int .u64 (at_ : Int), .int .i64 n, .int .i64 pg, .int .i64 1] 24)).alloc (.cells #[.int .i64 0, .int .i64 0, .int .i64 0] 28)) = w1 at *
    refine (page7_c pg lun false _ HPg.out HLun.out).mono ?_
    rintro e w2 ⟨vp, rfl, hl, hp⟩
    replace LL := hide (LL.out.trans hl)
    replace BX := hide (BX.out.later hl)
    replace BS := hide (BS.out.later hl)
    have VP := hide hp
    clear hl hp
    generalize pageS pg = sp at *
    go_wp2_with (refine wpList_newAS rfl rfl rfl rfl 10 9 rfl rfl (by simp) (by decide) (.tmp 37) (.tmp 38) (by simp) (by simp) (by simp) rfl rfl rfl _ sp rfl rfl ?_)
    intro g10 w3 hB hl hg
    have hg10 : Hid (w.heap.size + 1 < g10) := by rw [Hid, hg.out]; exact BS.out.lt
    replace LL := hide (LL.out.trans hl)
    replace BX := hide (BX.out.later hl)
    replace BS := hide (BS.out.later hl)
    replace VP := hide (VP.out.later hl)
    have B10 := hide hB
    clear hl hg hB
    go_wp2_with fail
    refine wp_region_held (fun W => (Later w W ∧ Box W w.heap.size 24 [.int .i64 18, .int .u64 (at_ : Int), .int .i64 n, .int .i64 pg, .int .i64 1]) ∧ Box W g10 28 (sc sp)) (fun a b hl h => ⟨⟨h.1.1.trans hl, h.1.2.later hl⟩, h.2.later hl⟩) ⟨⟨LL.out, BX.out⟩, B10.out⟩ [(0, false), (1, false), (2, false), (4, false), (3, true), (5, false), (6, true)] (by kernel_rfl) (by kernel_rfl) (by kernel_rfl) (by kernel_rfl) ?_
    haveI : Nonempty (Held (fun W => (Later w W ∧ Box W w.heap.size 24 [.int .i64 18, .int .u64 (at_ : Int), .int .i64 n, .int .i64 pg, .int .i64 1]) ∧ Box W g10 28 (sc sp))) := ⟨⟨_, ⟨LL.out, BX.out⟩, B10.out⟩⟩
    have e2 := fun p : Held (fun W => (Later w W ∧ Box W w.heap.size 24 [.int .i64 18, .int .u64 (at_ : Int), .int .i64 n, .int .i64 pg, .int .i64 1]) ∧ Box W g10 28 (sc sp)) => p.h.1.2.cell 2
    have s0 := fun p : Held (fun W => (Later w W ∧ Box W w.heap.size 24 [.int .i64 18, .int .u64 (at_ : Int), .int .i64 n, .int .i64 pg, .int .i64 1]) ∧ Box W g10 28 (sc sp)) => p.h.2.cell 0
    have s1 := fun p : Held (fun W => (Later w W ∧ Box W w.heap.size 24 [.int .i64 18, .int .u64 (at_ : Int), .int .i64 n, .int .i64 pg, .int .i64 1]) ∧ Box W g10 28 (sc sp)) => p.h.2.cell 1
    have s2 := fun p : Held (fun W => (Later w W ∧ Box W w.heap.size 24 [.int .i64 18, .int .u64 (at_ : Int), .int .i64 n, .int .i64 pg, .int .i64 1]) ∧ Box W g10 28 (sc sp)) => p.h.2.cell 2
    replace LL := hide (LL.out.trans (Later.refl _).drew)
    replace BX := hide (BX.out.later (Later.refl _).drew)
    replace BS := hide (BS.out.later (Later.refl _).drew)
    replace B10 := hide (B10.out.later (Later.refl _).drew)
    replace VP := hide (VP.out.later (Later.refl _).drew)
    iterate 4 (refine wpJ_mild rfl (fun K hK => ?_); go_simp; refine hK _ ?_; clear hK K)
    refine wpJ_callL (fun a b hl h => ⟨⟨h.1.1.trans hl, h.1.2.later hl⟩, h.2.later hl⟩) rfl (by kernel_rfl) 17 (Plain.of (by kernel_rfl)) [.tmp 39, .tmp 41] _ rfl [vp, .int .i64 n] rfl (fun v W => Bs W v (cutL (pageL pg lun false) n)) ⟨⟨LL.out, BX.out⟩, B10.out⟩ (fun wx hx => cut7_c vp _ n wx (VP.out.later hx) (by have := pageL_len pg lun false; omega) HN.out) ?_
    intro v2 b2 hl2 hr2
    replace LL := hide (LL.out.trans hl2)
    replace BX := hide (BX.out.later hl2)
    replace BS := hide (BS.out.later hl2)
    (clear s0 s1 s2; replace B10 := hide (B10.out.later hl2))
    iterate 1 (refine wpJ_mild rfl (fun K hK => ?_); go_simp; refine hK _ ?_; clear hK K)
    refine wpJ_store rfl rfl 28 (.tmp 7) (.tmp 43) rfl (w.heap.size + 1) (sc sp) rfl rfl Try.info_sense (sc_one _) _ _ BS.out (by simp) (fun W hW => ⟨⟨(LL.out.trans hW).setCells (Nat.le_succ _) _ _, (BX.out.later hW).apart _ (by omega) _ _⟩, (B10.out.later hW).apart _ (by have := hg10.out; omega) _ _⟩) ?_
    intro wl hl wz hz
    have BZ : Hid (Box wz (w.heap.size + 1) 28 (sc sp)) := by rw [hz.out]; exact (BS.out.later hl).all _ rfl
    have LZ : Hid (Later w wz) := by rw [hz.out]; exact (LL.out.trans hl).setCells (Nat.le_succ _) _ _
    have VZ := (hr2.later hl).setSns7 (BS.out.later hl) (sc sp) 0
    rw [← hz.out] at VZ
    clear hz hl hr2 hl2 e2
    refine wpJ_nil (fun wn hn => ?_)
    replace BZ := hide (BZ.out.later hn)
    replace LZ := hide (LZ.out.trans hn)
    have VN := hide (VZ.later hn)
    clear hn VZ
    go_wp2
    refine bodyPost_ret (results_tmp_cell' rfl _ _ _ (w.heap.size + 1) 0 rfl _ _ (run_loadVar_mid _ _ _ _ (sc sp) _ BZ.out.range Try.underlying28 rfl Try.info_sense) rfl) rfl ⟨_, by rw [HR.out], LZ.out, by rw [HR.out]; exact VN.out⟩
  | true =>
    have ht : decide (lun < luns) = th := by rw [HT.out, ha]; rfl
    clear HT
    by_cases hb : bt = 1
    case neg =>
      have hbb : (bt != 1) = true := by simp [hb]
      have HR : Hid (ansR (18, at_, n, pg, bt) lun luns = (cutL (stdL th) n, (0, 0, 0))) := by rw [Hid, HA.out, if_pos hb]
      clear hb
      go_wp2_with fail
      clear x0 x1 x2 x3 x4
      generalize ((w.alloc (.cells #[.int .i64 18, .int .u64 (at_ : Int), .int .i64 n, .int .i64 pg, .int .i64 bt] 24)).alloc (.cells #[.int .i64 0, .int .i64 0, .int .i64 0] 28)) = w1 at *
      refine wp_region_held (fun W => Later w W ∧ Box W w.heap.size 24 [.int .i64 18, .int .u64 (at_ : Int), .int .i64 n, .int .i64 pg, .int .i64 bt]) (fun a b hl h => ⟨h.1.trans hl, h.2.later hl⟩) ⟨LL.out, BX.out⟩ [(0, false), (2, false), (3, false), (5, false), (1, true), (4, true), (6, false), (7, true)] (by kernel_rfl) (by kernel_rfl) (by kernel_rfl) (by kernel_rfl) ?_
      haveI : Nonempty (Held (fun W => Later w W ∧ Box W w.heap.size 24 [.int .i64 18, .int .u64 (at_ : Int), .int .i64 n, .int .i64 pg, .int .i64 bt])) := ⟨⟨_, LL.out, BX.out⟩⟩
      have e2 := fun p : Held (fun W => Later w W ∧ Box W w.heap.size 24 [.int .i64 18, .int .u64 (at_ : Int), .int .i64 n, .int .i64 pg, .int .i64 bt]) => p.h.2.cell 2
      replace LL := hide (LL.out.trans (Later.refl _).drew)
      replace BX := hide (BX.out.later (Later.refl _).drew)
      replace BS := hide (BS.out.later (Later.refl _).drew)
      iterate 4 (refine wpJ_mild rfl (fun K hK => ?_); go_simp; refine hK _ ?_; clear hK K)
      refine wpJ_callL (fun a b hl h => ⟨h.1.trans hl, h.2.later hl⟩) rfl (by kernel_rfl) 14 (Plain.of (by kernel_rfl)) [.tmp 25] _ rfl [.bool th] rfl (fun v W => Bs W v (stdL th)) ⟨LL.out, BX.out⟩ (fun wx hx => std7_c th wx) ?_
      intro v1 b1 hl1 hr1
      replace LL := hide (LL.out.trans hl1)
      replace BX := hide (BX.out.later hl1)
      replace BS := hide (BS.out.later hl1)
      clear hl1
      refine wpJ_callL (fun a b hl h => ⟨h.1.trans hl, h.2.later hl⟩) rfl (by kernel_rfl) 17 (Plain.of (by kernel_rfl)) [.tmp 26, .tmp 28] _ rfl [v1, .int .i64 n] rfl (fun v W => Bs W v (cutL (stdL th) n)) ⟨LL.out, BX.out⟩ (fun wx hx => cut7_c v1 _ n wx (hr1.later hx) (by rw [stdL_len]; decide) HN.out) ?_
      intro v2 b2 hl2 hr2
      replace LL := hide (LL.out.trans hl2)
      replace BX := hide (BX.out.later hl2)
      replace BS := hide (BS.out.later hl2)
      clear hr1
      iterate 1 (refine wpJ_mild rfl (fun K hK => ?_); go_simp; refine hK _ ?_; clear hK K)
      refine wpJ_store rfl rfl 28 (.tmp 7) (.tmp 30) rfl (w.heap.size + 1) (sc (0, 0, 0)) rfl rfl Try.info_sense (sc_one _) _ _ BS.out (by simp) (fun W hW => ⟨(LL.out.trans hW).setCells (Nat.le_succ _) _ _, (BX.out.later hW).apart _ (by omega) _ _⟩) ?_
      intro wl hl wz hz
      have BZ : Hid (Box wz (w.heap.size + 1) 28 (sc (0, 0, 0))) := by rw [hz.out]; exact (BS.out.later hl).all _ rfl
      have LZ : Hid (Later w wz) := by rw [hz.out]; exact (LL.out.trans hl).setCells (Nat.le_succ _) _ _
      have VZ := (hr2.later hl).setSns7 (BS.out.later hl) (sc (0, 0, 0)) 0
      rw [← hz.out] at VZ
      clear hz hl hr2 hl2 e2
      refine wpJ_nil (fun wn hn => ?_)
      replace BZ := hide (BZ.out.later hn)
      replace LZ := hide (LZ.out.trans hn)
      have VN := hide (VZ.later hn)
      clear hn VZ
      go_wp2
      refine bodyPost_ret (results_tmp_cell' rfl _ _ _ (w.heap.size + 1) 0 rfl _ _ (run_loadVar_mid _ _ _ _ (sc (0, 0, 0)) _ BZ.out.range Try.underlying28 rfl Try.info_sense) rfl) rfl ⟨_, by rw [HR.out], LZ.out, by rw [HR.out]; exact VN.out⟩
    subst hb
    have HR : Hid (ansR (18, at_, n, pg, 1) lun luns = (cutL (pageL pg lun th) n, pageS pg)) := by rw [Hid, HA.out, if_neg (by simp)]
    go_wp2_with fail
    clear x0 x1 x2 x3 x4
    generalize ((w.alloc (.cells #[.int .i64 18, .int .u64 (at_ : Int), .int .i64 n, .int .i64 pg, .int .i64 1] 24)).alloc (.cells #[.int .i64 0, .int .i64 0, .int .i64 0] 28)) = w1 at *
    refine (page7_c pg lun th _ HPg.out HLun.out).mono ?_
    rintro e w2 ⟨vp, rfl, hl, hp⟩
    replace LL := hide (LL.out.trans hl)
    replace BX := hide (BX.out.later hl)
    replace BS := hide (BS.out.later hl)
    have VP := hide hp
    clear hl hp
    generalize pageS pg = sp at *
    go_wp2_with (refine wpList_newAS rfl rfl rfl rfl 10 9 rfl rfl (by simp) (by decide) (.tmp 37) (.tmp 38) (by simp) (by simp) (by simp) rfl rfl rfl _ sp rfl rfl ?_)
    intro g10 w3 hB hl hg
    have hg10 : Hid (w.heap.size + 1 < g10) := by rw [Hid, hg.out]; exact BS.out.lt
    replace LL := hide (LL.out.trans hl)
    replace BX := hide (BX.out.later hl)
    replace BS := hide (BS.out.later hl)
    replace VP := hide (VP.out.later hl)
    have B10 := hide hB
    clear hl hg hB
    go_wp2_with fail
    refine wp_region_held (fun W => (Later w W ∧ Box W w.heap.size 24 [.int .i64 18, .int .u64 (at_ : Int), .int .i64 n, .int .i64 pg, .int .i64 1]) ∧ Box W g10 28 (sc sp)) (fun a b hl h => ⟨⟨h.1.1.trans hl, h.1.2.later hl⟩, h.2.later hl⟩) ⟨⟨LL.out, BX.out⟩, B10.out⟩ [(0, false), (1, false), (2, false), (4, false), (3, true), (5, false), (6, true)] (by kernel_rfl) (by kernel_rfl) (by kernel_rfl) (by kernel_rfl) ?_
    haveI : Nonempty (Held (fun W => (Later w W ∧ Box W w.heap.size 24 [.int .i64 18, .int .u64 (at_ : Int), .int .i64 n, .int .i64 pg, .int .i64 1]) ∧ Box W g10 28 (sc sp))) := ⟨⟨_, ⟨LL.out, BX.out⟩, B10.out⟩⟩
    have e2 := fun p : Held (fun W => (Later w W ∧ Box W w.heap.size 24 [.int .i64 18, .int .u64 (at_ : Int), .int .i64 n, .int .i64 pg, .int .i64 1]) ∧ Box W g10 28 (sc sp)) => p.h.1.2.cell 2
    have s0 := fun p : Held (fun W => (Later w W ∧ Box W w.heap.size 24 [.int .i64 18, .int .u64 (at_ : Int), .int .i64 n, .int .i64 pg, .int .i64 1]) ∧ Box W g10 28 (sc sp)) => p.h.2.cell 0
    have s1 := fun p : Held (fun W => (Later w W ∧ Box W w.heap.size 24 [.int .i64 18, .int .u64 (at_ : Int), .int .i64 n, .int .i64 pg, .int .i64 1]) ∧ Box W g10 28 (sc sp)) => p.h.2.cell 1
    have s2 := fun p : Held (fun W => (Later w W ∧ Box W w.heap.size 24 [.int .i64 18, .int .u64 (at_ : Int), .int .i64 n, .int .i64 pg, .int .i64 1]) ∧ Box W g10 28 (sc sp)) => p.h.2.cell 2
    replace LL := hide (LL.out.trans (Later.refl _).drew)
    replace BX := hide (BX.out.later (Later.refl _).drew)
    replace BS := hide (BS.out.later (Later.refl _).drew)
    replace B10 := hide (B10.out.later (Later.refl _).drew)
    replace VP := hide (VP.out.later (Later.refl _).drew)
    iterate 4 (refine wpJ_mild rfl (fun K hK => ?_); go_simp; refine hK _ ?_; clear hK K)
    refine wpJ_callL (fun a b hl h => ⟨⟨h.1.1.trans hl, h.1.2.later hl⟩, h.2.later hl⟩) rfl (by kernel_rfl) 17 (Plain.of (by kernel_rfl)) [.tmp 39, .tmp 41] _ rfl [vp, .int .i64 n] rfl (fun v W => Bs W v (cutL (pageL pg lun th) n)) ⟨⟨LL.out, BX.out⟩, B10.out⟩ (fun wx hx => cut7_c vp _ n wx (VP.out.later hx) (by have := pageL_len pg lun th; omega) HN.out) ?_
    intro v2 b2 hl2 hr2
    replace LL := hide (LL.out.trans hl2)
    replace BX := hide (BX.out.later hl2)
    replace BS := hide (BS.out.later hl2)
    (clear s0 s1 s2; replace B10 := hide (B10.out.later hl2))
    iterate 1 (refine wpJ_mild rfl (fun K hK => ?_); go_simp; refine hK _ ?_; clear hK K)
    refine wpJ_store rfl rfl 28 (.tmp 7) (.tmp 43) rfl (w.heap.size + 1) (sc sp) rfl rfl Try.info_sense (sc_one _) _ _ BS.out (by simp) (fun W hW => ⟨⟨(LL.out.trans hW).setCells (Nat.le_succ _) _ _, (BX.out.later hW).apart _ (by omega) _ _⟩, (B10.out.later hW).apart _ (by have := hg10.out; omega) _ _⟩) ?_
    intro wl hl wz hz
    have BZ : Hid (Box wz (w.heap.size + 1) 28 (sc sp)) := by rw [hz.out]; exact (BS.out.later hl).all _ rfl
    have LZ : Hid (Later w wz) := by rw [hz.out]; exact (LL.out.trans hl).setCells (Nat.le_succ _) _ _
    have VZ := (hr2.later hl).setSns7 (BS.out.later hl) (sc sp) 0
    rw [← hz.out] at VZ
    clear hz hl hr2 hl2 e2
    refine wpJ_nil (fun wn hn => ?_)
    replace BZ := hide (BZ.out.later hn)
    replace LZ := hide (LZ.out.trans hn)
    have VN := hide (VZ.later hn)
    clear hn VZ
    go_wp2
    refine bodyPost_ret (results_tmp_cell' rfl _ _ _ (w.heap.size + 1) 0 rfl _ _ (run_loadVar_mid _ _ _ _ (sc sp) _ BZ.out.range Try.underlying28 rfl Try.info_sense) rfl) rfl ⟨_, by rw [HR.out], LZ.out, by rw [HR.out]; exact VN.out⟩
end Go.Proofs.Ytdhagfklcfajgaa

namespace Go.Proofs.Ytdhagfklcfajgaa
open Go.ChangeShapes Go.WideShapes Go.ChangeAt Go.RowKit
set_option linter.unusedVariables false
set_option linter.unusedSimpArgs false

theorem wpList_eqS7 {w : World} {ops : Array Oper} {rest : List Oper} {o : Oper} {a : Act} {Q : Exit → Act → World → Prop} (hw : Region.wanted o (yielded ops a.tmps) = true) (x y : Operand) (hop : o.op = .binOp .eql 28 x y 28)
    (s t : Sns) (hx : a.eval x = sval s) (hy : a.eval y = sval t) (r : Bool) (hr : (s == t) = r) (h : wpList Try.prog ops Q rest (a.put o.dst (.bool r)) w) : wpList Try.prog ops Q (o :: rest) a w := by
  subst hr
  exact wpList_eqS hw x y hop s t hx hy h
set_option maxHeartbeats 2000000 in
theorem inquiryAnswers_walk (hal : Alive7) (iA : IAns7) (iS : ISerial7) (c : Cmd) (lun luns : Int) (w : World) (hc : OkC7 c) (h1 : In64 lun) (h2 : In64 luns) :
    Calls Try.prog 3 #[cval c, .int .i64 lun, .int .i64 luns] w fun e w' => e = .returned (.bool true) ∧ Below w.heap.size w w' := by
  have HC := hide hc
  have H1 := hide h1
  have H2 := hide h2
  clear hc h1 h2
  have BX := hide (Box.new w 24 #[.int .i64 c.1, .int .u64 (c.2.1 : Int), .int .i64 c.2.2.1, .int .i64 c.2.2.2.1, .int .i64 c.2.2.2.2])
  have LL := hide ((Later.refl w).alloc (.cells #[.int .i64 c.1, .int .u64 (c.2.1 : Int), .int .i64 c.2.2.1, .int .i64 c.2.2.2.1, .int .i64 c.2.2.2.2] 24))
  go_enter Try.func3, Try.ntmps3
  go_wp2_with fail
  refine (hal _).mono ?_
  rintro e w1 ⟨rfl, hl⟩
  replace BX := hide (BX.out.later hl)
  replace LL := hide (LL.out.trans hl)
  clear hl
  have x0 := BX.out.cell 0
  have x1 := BX.out.cell 1
  have x2 := BX.out.cell 2
  have x3 := BX.out.cell 3
  have x4 := BX.out.cell 4
  go_wp2_with fail
  refine (iA c lun luns _ HC.out H1.out H2.out).mono ?_
  rintro e w2 ⟨va, rfl, hl, ha⟩
  replace BX := hide (BX.out.later hl)
  replace LL := hide (LL.out.trans hl)
  have VA := hide ha
  clear hl ha x0 x1 x2 x3 x4
  have HS : Hid (∃ l s, ansR c lun luns = (l, s)) := ⟨_, _, rfl⟩
  generalize hp : ansR c lun luns = p at *
  have HP := hide hp
  clear hp HS
  obtain ⟨l, s⟩ := p
  simp only at VA ⊢
  go_wp2_with (refine wpList_newAS rfl rfl rfl rfl 8 7 rfl rfl (by simp) (by decide) (.tmp 18) (.tmp 19) (by simp) (by simp) (by simp) rfl rfl rfl _ s rfl rfl ?_)
  intro g8 w3 hB hl hg
  replace BX := hide (BX.out.later hl)
  replace VA := hide (VA.out.later hl)
  replace LL := hide (LL.out.trans hl)
  have B8 := hide hB
  clear hl hg hB
  have x0 := BX.out.cell 0
  have x1 := BX.out.cell 1
  have x2 := BX.out.cell 2
  have x3 := BX.out.cell 3
  have x4 := BX.out.cell 4
  go_wp2_with fail
  refine (ranswer_c c lun luns _ H1.out).mono ?_
  rintro e w4 ⟨vb, rfl, hl, hb⟩
  rw [HP.out] at hb ⊢
  simp only at hb ⊢
  replace VA := hide (VA.out.later hl)
  replace B8 := hide (B8.out.later hl)
  replace LL := hide (LL.out.trans hl)
  have VB := hide hb
  clear hl hb x0 x1 x2 x3 x4
  go_wp2_with (refine wpList_newAS rfl rfl rfl rfl 10 9 rfl rfl (by simp) (by decide) (.tmp 25) (.tmp 26) (by simp) (by simp) (by simp) rfl rfl rfl _ s rfl rfl ?_)
  intro g9 w5 hB hl hg
  replace VA := hide (VA.out.later hl)
  replace VB := hide (VB.out.later hl)
  replace B8 := hide (B8.out.later hl)
  replace LL := hide (LL.out.trans hl)
  have B9 := hide hB
  clear hl hg hB
  have g1 := VA.out.strOf
  have g2 := VB.out.strOf
  have s0 := B8.out.cell 0
  have s1 := B8.out.cell 1
  have s2 := B8.out.cell 2
  have t0 := B9.out.cell 0
  have t1 := B9.out.cell 1
  have t2 := B9.out.cell 2
  generalize strOf l = sl at *
  go_wp2_with (refine wpList_eqS7 (by kernel_rfl) (.tmp 33) (.tmp 34) rfl s s rfl rfl true (by simp) ?_)
  refine (iS lun _ H1.out).mono ?_
  rintro e w6 ⟨rfl, hl⟩
  replace LL := hide (LL.out.trans hl)
  clear hl g1 g2 s0 s1 s2 t0 t1 t2
  go_wp2_with fail
  refine (rserial_c lun _ H1.out).mono ?_
  rintro e w7 ⟨rfl, hl⟩
  replace LL := hide (LL.out.trans hl)
  clear hl
  go_wp2
  go_ret
  refine ⟨?_, LL.out⟩
  first | rfl | simp
end Go.Proofs.Ytdhagfklcfajgaa
