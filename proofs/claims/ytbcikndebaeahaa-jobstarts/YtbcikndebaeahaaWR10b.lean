import Derived.Test.YtbcikndebaeahaaMAN
namespace Go.Proofs.Ytbcikndebaeahaa
open Go.ChangeShapes Go.WideShapes Go.ChangeAt Go.RowKit
set_option linter.unusedVariables false
set_option maxRecDepth 4000
set_option linter.unusedSimpArgs false
/-! The document's job: Right. -/
def modeOp (op : Int) : Bool := op == 21 || op == 85
def rightJ (c : Cmd) (len took : Int) (m : Nat) : Bool := match startL c with
  | none => false
  | some k => if k = len ∧ 0 ≤ took ∧ took ≤ len then (if modeOp c.1 then (m : Int) == took else (m : Int) == took % 64) else false
set_option maxRecDepth 20000 in
set_option maxHeartbeats 4000000 in
theorem rright10_c {v : Value} {c : Cmd} {len took : Int} {L : List UInt8} {s : Sns} (w : World) (h : Jb w v c len took L s) (hc : OkC7 c) (h1 : In64 len) (h2 : In64 took) :
    Calls Try.prog 15 #[v] w fun e w' => e = .returned (.bool (rightJ c len took L.length)) ∧ Later w w' := by
  obtain ⟨ar, cr, rfl, hb⟩ := h
  have hL : L.length ≤ 9223372036854775807 := by have := hb.1; unfold maxLen at this; omega
  clear hb
  obtain ⟨k, hk⟩ : ∃ k, k = L.length := ⟨_, rfl⟩
  rw [← hk] at hL ⊢
  clear hk
  have HC := hide hc
  clear hc
  unfold In64 at h1 h2
  have BX := hide (Box.new w 38 #[.int .i64 c.1, .int .u64 (c.2.1 : Int), .int .i64 c.2.2.1, .int .i64 c.2.2.2.1, .int .i64 c.2.2.2.2, .int .i64 len, .int .i64 took, .slice ar k cr, .int .i64 s.1, .int .i64 s.2.1, .int .i64 s.2.2])
  have LL := hide ((Later.refl w).alloc (.cells #[.int .i64 c.1, .int .u64 (c.2.1 : Int), .int .i64 c.2.2.1, .int .i64 c.2.2.2.1, .int .i64 c.2.2.2.2, .int .i64 len, .int .i64 took, .slice ar k cr, .int .i64 s.1, .int .i64 s.2.1, .int .i64 s.2.2] 38))
  have x_0 := BX.out.cell 0
  have x_1 := BX.out.cell 1
  have x_2 := BX.out.cell 2
  have x_3 := BX.out.cell 3
  have x_4 := BX.out.cell 4
  have x_5 := BX.out.cell 5
  have x_6 := BX.out.cell 6
  have x_7 := BX.out.cell 7
  have x_8 := BX.out.cell 8
  have x_9 := BX.out.cell 9
  have x_10 := BX.out.cell 10
  go_enter Try.func15, Try.ntmps15
  go_wp2_with fail
  generalize w.alloc (.cells #[.int .i64 c.1, .int .u64 (c.2.1 : Int), .int .i64 c.2.2.1, .int .i64 c.2.2.2.1, .int .i64 c.2.2.2.2, .int .i64 len, .int .i64 took, .slice ar k cr, .int .i64 s.1, .int .i64 s.2.1, .int .i64 s.2.2] 38) = w1 at *
  refine (rstart_c c _ HC.out).mono ?_
  rintro e w2 ⟨rfl, hl⟩
  replace LL := hide (LL.out.trans hl)
  replace BX := hide (BX.out.later hl)
  clear hl
  clear x_0 x_1 x_2 x_3 x_4 x_5 x_6 x_7 x_8 x_9 x_10
  have HR : Hid (rightJ c len took k = match startL c with | none => false | some k' => if k' = len ∧ 0 ≤ took ∧ took ≤ len then (if modeOp c.1 then (k : Int) == took else (k : Int) == took % 64) else false) := rfl
  unfold startJ
  cases hs : startL c with
  | none =>
    rw [hs] at HR
    simp only at HR ⊢
    have LZ := hide (LL.out.alloc (.cells #[.int .i64 0, .int .u64 0, .int .i64 0, .int .i64 0, .int .i64 0, .int .i64 0, .int .i64 0, .slice none 0 0, .int .i64 0, .int .i64 0, .int .i64 0] 38))
    go_wp2
    go_ret
    exact ⟨by rw [HR.out]; rfl, LZ.out⟩
  | some z =>
    rw [hs] at HR
    simp only at HR ⊢
    have BO := hide (Box.new w2 38 #[.int .i64 c.1, .int .u64 (c.2.1 : Int), .int .i64 c.2.2.1, .int .i64 c.2.2.2.1, .int .i64 c.2.2.2.2, .int .i64 z, .int .i64 0, .slice none 0 0, .int .i64 0, .int .i64 0, .int .i64 0])
    have BY := hide (BX.out.alloc (.cells #[.int .i64 c.1, .int .u64 (c.2.1 : Int), .int .i64 c.2.2.1, .int .i64 c.2.2.2.1, .int .i64 c.2.2.2.2, .int .i64 z, .int .i64 0, .slice none 0 0, .int .i64 0, .int .i64 0, .int .i64 0] 38))
    have LZ := hide (LL.out.alloc (.cells #[.int .i64 c.1, .int .u64 (c.2.1 : Int), .int .i64 c.2.2.1, .int .i64 c.2.2.2.1, .int .i64 c.2.2.2.2, .int .i64 z, .int .i64 0, .slice none 0 0, .int .i64 0, .int .i64 0, .int .i64 0] 38))
    clear BX LL
    have o5 := BO.out.cell 5
    have x0 := BY.out.cell 0
    have x5 := BY.out.cell 5
    have x6 := BY.out.cell 6
    have x7 := BY.out.cell 7
    by_cases hA : z = len
    case neg =>
      have e1 : (z != len) = true := by simp [hA]
      replace HR : Hid (rightJ c len took k = false) := by rw [Hid, HR.out, if_neg (fun h => hA h.1)]
      clear hA
      go_wp2
      go_ret
      exact ⟨by rw [HR.out]; rfl, LZ.out⟩
    subst hA
    by_cases hB : took < 0
    · have e1 : decide (took < 0) = true := by simp; omega
      replace HR : Hid (rightJ c z took k = false) := by rw [Hid, HR.out, if_neg (fun h => by omega)]
      clear hB
      go_wp2
      go_ret
      exact ⟨by rw [HR.out]; rfl, LZ.out⟩
    have e1 : decide (took < 0) = false := by simp; omega
    by_cases hC : z < took
    · have e2 : decide (z < took) = true := by simp; omega
      replace HR : Hid (rightJ c z took k = false) := by rw [Hid, HR.out, if_neg (fun h => by omega)]
      clear hB hC
      go_wp2
      go_ret
      exact ⟨by rw [HR.out]; rfl, LZ.out⟩
    have e2 : decide (z < took) = false := by simp; omega
    replace HR : Hid (rightJ c z took k = if modeOp c.1 then (k : Int) == took else (k : Int) == took % 64) := by rw [Hid, HR.out, if_pos ⟨rfl, by omega, by omega⟩]
    have hmod : took.tmod 64 = took % 64 := Int.tmod_eq_emod_of_nonneg (by omega)
    clear hB hC
    by_cases h3 : c.1 = 21
    · have e3 : (c.1 == 21) = true := by simp [h3]
      replace HR : Hid (rightJ c z took k = ((k : Int) == took)) := by rw [Hid, HR.out, if_pos (by simp [modeOp, h3])]
      clear h3
      go_wp2
      go_ret
      exact ⟨by rw [HR.out]; rfl, LZ.out⟩
    have e3 : (c.1 == 21) = false := by simp [h3]
    by_cases h4 : c.1 = 85
    · have e4 : (c.1 == 85) = true := by simp [h4]
      replace HR : Hid (rightJ c z took k = ((k : Int) == took)) := by rw [Hid, HR.out, if_pos (by simp [modeOp, h4])]
      clear h3 h4
      go_wp2
      go_ret
      exact ⟨by rw [HR.out]; rfl, LZ.out⟩
    have e4 : (c.1 == 85) = false := by simp [h4]
    replace HR : Hid (rightJ c z took k = ((k : Int) == took % 64)) := by rw [Hid, HR.out, if_neg (by simp [modeOp, h3, h4])]
    clear h3 h4
    go_wp2
    go_ret
    exact ⟨by rw [HR.out]; rfl, LZ.out⟩
end Go.Proofs.Ytbcikndebaeahaa
