import Derived.Lib.ConvBytes
import Derived.Test.YtfakboehmcimpaaGreatMAJ
import Derived.Test.YtfakboehmcimpaaGreatMAA
import Derived.Test.YtfakboehmcimpaaGreatMAG
import Derived.Test.YtfakboehmcimpaaGreatMAH
namespace Go.Proofs.YtfakboehmcimpaaGreat
open Go.ChangeShapes Go.WideShapes Go.ChangeAt Go.RowKit
set_option linter.unusedVariables false
set_option maxRecDepth 4000
set_option linter.unusedSimpArgs false
/-! The document's answers for slots: Read. -/
theorem checkS_zero {n : Nat} {D : List Drt} {p r : Bool} {at_ : Nat} {m : Int} {wr : Bool} (h : checkS n D p r at_ m wr = (0, 0, 0)) : p = true ∧ (r && wr) = false ∧ withinB (allN n D) at_ m = true := by
  unfold checkS at h
  cases p with
  | false => simp at h
  | true =>
    simp only [Bool.not_true, Bool.false_eq_true, if_false] at h
    split at h
    · simp at h
    · rename_i h1
      split at h
      · rename_i h2; exact ⟨rfl, by simpa using h1, h2⟩
      · simp at h
def rdL (n : Nat) (F : List UInt8) (D : List Drt) (S : Sns) (at_ : Nat) (m : Int) : List UInt8 := if S == (0, 0, 0) then seg (allF n F D) (at_ * 64) (m.toNat * 64) else []
theorem allN_small (n : Nat) (D : List Drt) : allN n D ≤ 64 := by
  unfold allN
  split
  · rename_i h; simp only [rightB, decide_eq_true_eq] at h; exact h.1
  · omega
set_option maxRecDepth 20000 in
set_option maxHeartbeats 2000000 in
theorem rread5_c {v : Value} {n : Nat} {F : List UInt8} {D : List Drt} {p r l : Bool} (at_ : Nat) (m : Int) (w : World) (h : Slt w v n F D p r l) (ha : at_ ≤ 18446744073709551615) :
    Calls Tryz.prog 88 #[v, .int .u64 at_, .int .i64 m] w fun e w' => ∃ v', e = .returned (.tuple #[v', sval (checkS n D p r at_ m false)]) ∧ Later w w' ∧ Bs w' v' (rdL n F D (checkS n D p r at_ m false) at_ m) := by
  have HS := hide h
  obtain ⟨ab, cb, aD, k, cD, rfl, hm⟩ := h
  have HM := hide hm
  clear hm
  have BX : Hid (Box ((w.alloc (.cells #[.slice ab n cb, .slice aD k cD, .bool p, .bool r, .bool l] 27)).alloc (.cells #[.int .i64 0, .int .i64 0, .int .i64 0] 30)) w.heap.size 27 (tc (.slice ab n cb) (.slice aD k cD) p r l)) := (Box.new w 27 #[.slice ab n cb, .slice aD k cD, .bool p, .bool r, .bool l]).alloc _
  have BS : Hid (Box ((w.alloc (.cells #[.slice ab n cb, .slice aD k cD, .bool p, .bool r, .bool l] 27)).alloc (.cells #[.int .i64 0, .int .i64 0, .int .i64 0] 30)) (w.heap.size + 1) 30 (sc (0, 0, 0))) := Box.new' _ _ _ _ rfl _ (by simp)
  have L := hide (((Later.refl w).alloc (.cells #[.slice ab n cb, .slice aD k cD, .bool p, .bool r, .bool l] 27)).alloc (.cells #[.int .i64 0, .int .i64 0, .int .i64 0] 30))
  go_enter Tryz.func88, Tryz.ntmps88
  go_wp2_with fail
  generalize ((w.alloc (.cells #[.slice ab n cb, .slice aD k cD, .bool p, .bool r, .bool l] 27)).alloc (.cells #[.int .i64 0, .int .i64 0, .int .i64 0] 30)) = w1 at *
  refine (rcheck_c at_ m false w1 (HS.out.later L.out) ha).mono ?_
  rintro e w2 ⟨rfl, hl⟩
  replace BX := hide (BX.out.later hl)
  replace BS := hide (BS.out.later hl)
  replace L := hide (L.out.later hl)
  clear hl
  have HZ := hide (fun h => checkS_zero (n := n) (D := D) (p := p) (r := r) (at_ := at_) (m := m) (wr := false) h)
  generalize hS : checkS n D p r at_ m false = S at *
  have HSv := hide hS
  clear hS
  go_wp2_with (refine wpList_newS rfl rfl rfl 8 rfl (by simp) (.tmp 14) (by simp) rfl S rfl ?_)
  intro g8 w3 hB hl hg
  replace BX := hide (BX.out.later hl)
  replace BS := hide (BS.out.later hl)
  replace L := hide (L.out.later hl)
  have B8 := hide hB
  clear hB hl hg
  have e0 := B8.out.cell 0
  have e1 := B8.out.cell 1
  have e2 := B8.out.cell 2
  cases hz : (S == ((0, 0, 0) : Sns)) with
  | false =>
    have hRd : Hid (rdL n F D S at_ m = []) := by simp only [Hid, rdL, hz]; rfl
    go_wp2_with (refine wpList_neqS (by kernel_rfl) (.tmp 15) (.tmp 16) rfl S (0, 0, 0) rfl rfl ?_; rw [hz])
    clear e0 e1 e2
    refine wp_region_tree [0, 1] [] [2] (by kernel_rfl) (by kernel_rfl) (by kernel_rfl) (by kernel_rfl) ?_
    refine wpT_loadG rfl (by kernel_rfl) 30 (.tmp 8) rfl g8 0 rfl (sc S) _ ((World.rangeAt_drew _ _ _ _).2 B8.out.range) Tryz.underlying30 rfl Tryz.info_sense ?_
    refine wpT_mild rfl (fun K hK => ?_)
    go_simp
    refine hK _ ?_
    clear hK K
    refine wpT_done (fun wx hwx => ?_)
    have hlx := (Later.refl w3).drew.trans hwx
    replace BS := hide (BS.out.later hlx)
    replace L := hide (L.out.later hlx)
    clear hwx hlx BX B8
    refine wpL_store rfl (by kernel_rfl) 30 (.tmp 7) (.tmp 18) rfl (w.heap.size + 1) 0 (sc S) rfl rfl (BS.out.there 0 3 (by simp)) Tryz.info_sense (sc_one _) (wpL_nil ?_)
    have BZ := hide (BS.out.all (sc S) rfl)
    have LZ := hide (L.out.setCells (g := w.heap.size + 1) (by omega) (sc S) 0)
    clear BS L
    generalize (wx.setCells (w.heap.size + 1) 0 (sc S)) = wz at *
    go_wp2
    refine bodyPost_ret (results_tmp_cell' rfl _ _ _ (w.heap.size + 1) 0 rfl (sval S) (.slice none 0 0) (shut3 BZ.out) rfl) rfl ⟨.slice none 0 0, ?_, LZ.out, ?_⟩
    · rw [HSv.out]
    · rw [HSv.out, hRd.out]; exact Bs.nil _
  | true =>
    obtain rfl : S = (0, 0, 0) := eq_of_beq hz
    have hq := HZ.out rfl
    have hRd : Hid (rdL n F D (0, 0, 0) at_ m = readL (allN n D) (allF n F D) at_ m) := by
      have h1 := allN_small n D
      simp only [Hid, rdL, readL, hz, if_true, if_neg (show ¬ 64 < allN n D by omega), hq.2.2]
    clear hq HZ hz
    have d0 := BX.out.cell 0
    have d1 := BX.out.cell 1
    go_wp2_with (refine wpList_neqS (by kernel_rfl) (.tmp 15) (.tmp 16) rfl (0, 0, 0) (0, 0, 0) rfl rfl ?_; rw [show (((0, 0, 0) : Sns) == (0, 0, 0)) = true from rfl])
    refine (rall_c w3 (HM.out.later L.out)).mono ?_
    rintro e w4 ⟨v4, rfl, hl, h4⟩
    replace BX := hide (BX.out.later hl)
    replace BS := hide (BS.out.later hl)
    replace L := hide (L.out.later hl)
    replace B8 := hide (B8.out.later hl)
    have R4 := hide (Rw.of_owns h4)
    clear hl h4 d0 d1 e0 e1 e2
    obtain ⟨a4, c4, rfl⟩ := R4.out.shape
    go_wp2_with fail
    refine (rread_c at_ m w4 R4.out ha).mono ?_
    rintro e w5 ⟨v5, rfl, hl, h5⟩
    rw [← hRd.out] at h5
    have O5 : Hid (w5.ownsRow w.heap.size 5 1 v5 (rdL n F D (0, 0, 0) at_ m).length (bv (rdL n F D (0, 0, 0) at_ m))) := owns_rebase h5 L.out.size
    replace BX := hide (BX.out.later hl)
    replace BS := hide (BS.out.later hl)
    replace L := hide (L.out.later hl)
    replace B8 := hide (B8.out.later hl)
    clear hl h5 R4
    go_wp2_with fail
    refine wp_region_tree [0, 1, 2] [] [3] (by kernel_rfl) (by kernel_rfl) (by kernel_rfl) (by kernel_rfl) ?_
    refine wpT_mild rfl (fun K hK => ?_)
    go_simp
    refine hK _ ?_
    clear hK K
    refine wpT_loadG rfl (by kernel_rfl) 30 (.tmp 8) rfl g8 0 rfl (sc (0, 0, 0)) _ ((World.rangeAt_drew _ _ _ _).2 B8.out.range) Tryz.underlying30 rfl Tryz.info_sense ?_
    refine wpT_mild rfl (fun K hK => ?_)
    go_simp
    refine hK _ ?_
    clear hK K
    refine wpT_done (fun wx hwx => ?_)
    have hlx := (Later.refl w5).drew.trans hwx
    replace BS := hide (BS.out.later hlx)
    replace L := hide (L.out.later hlx)
    have B5 := hide (owns_later O5.out hlx)
    clear hwx hlx BX B8 O5
    refine wpL_store rfl (by kernel_rfl) 30 (.tmp 7) (.tmp 29) rfl (w.heap.size + 1) 0 (sc (0, 0, 0)) rfl rfl (BS.out.there 0 3 (by simp)) Tryz.info_sense (sc_one _) (wpL_nil ?_)
    have BZ := hide (BS.out.all (sc (0, 0, 0)) rfl)
    have LZ := hide (L.out.setCells (g := w.heap.size + 1) (by omega) (sc (0, 0, 0)) 0)
    have OZ : Hid ((wx.setCells (w.heap.size + 1) 0 (sc (0, 0, 0))).ownsRow w.heap.size 5 1 v5 (rdL n F D (0, 0, 0) at_ m).length (bv (rdL n F D (0, 0, 0) at_ m))) := owns_kept B5.out fun g hg => heap_setCells_other wx (w.heap.size + 1) g (fun e => box_ne_own BS.out B5.out (by decide) g hg e.symm) _ _
    clear BS L B5
    generalize (wx.setCells (w.heap.size + 1) 0 (sc (0, 0, 0))) = wz at *
    go_wp2
    refine bodyPost_ret (results_tmp_cell' rfl _ _ _ (w.heap.size + 1) 0 rfl (sval (0, 0, 0)) v5 (shut3 BZ.out) rfl) rfl ⟨v5, ?_, LZ.out, ?_⟩
    · rw [HSv.out]
    · rw [HSv.out]; exact (Bs.of_owns OZ.out).1
end Go.Proofs.YtfakboehmcimpaaGreat

namespace Go.Proofs.YtfakboehmcimpaaGreat
open Go.ChangeShapes Go.WideShapes Go.ChangeAt Go.RowKit
set_option linter.unusedVariables false
set_option maxRecDepth 4000
set_option linter.unusedSimpArgs false
/-! The document's answers for slots: Put. -/
theorem box_ne {w : World} {g g' : Nat} {t t' : TypeId} {xs ys : List Value} (h : Box w g t xs) (h' : Box w g' t' ys) (hne : t ≠ t') : g ≠ g' := by
  intro e
  subst e
  unfold Box at h h'
  rw [h] at h'
  simp at h'
  exact hne h'.2
theorem Med.setOff {w : World} {a b : Value} {n : Nat} {F : List UInt8} {D : List Drt} {g : Nat} (h : Med w (.agg #[a, b]) n F D) (h1 : OffS g a) (h2 : OffS g b) (vs : List Value) (o : Nat) : Med (w.setCells g o vs) (.agg #[a, b]) n F D := by
  obtain ⟨vb, vd, e, hb, hd, ho⟩ := h
  simp at e
  obtain ⟨rfl, rfl⟩ := e
  exact ⟨_, _, rfl, hb.setOff h1 vs o, hd.setOff h2 vs o, ho⟩
end Go.Proofs.YtfakboehmcimpaaGreat

namespace Go.Proofs.YtfakboehmcimpaaGreat
open Go.ChangeShapes Go.WideShapes Go.ChangeAt Go.RowKit
set_option linter.unusedVariables false
set_option maxRecDepth 4000
set_option linter.unusedSimpArgs false
theorem isWidth_any (a : Int) (w : World) :
    Calls Tryz.prog 104 #[.int .i64 a] w fun e w' => e = .returned (.bool (isW a)) ∧ w' = w := by
  unfold isW
  by_cases h1 : 1 ≤ a
  · by_cases h2 : a ≤ 8
    all_goals
      go_enter Tryz.func104, Tryz.ntmps104
      go_wp2
      go_ret
      refine ⟨ret_bool (by first | (simp; done) | (simp; omega)), rfl⟩
  · go_enter Tryz.func104, Tryz.ntmps104
    go_wp2
    go_ret
    refine ⟨ret_bool (by first | (simp; done) | (simp; omega)), rfl⟩
theorem right_any (f n : Int) (w : World) :
    Calls Tryz.prog 134 #[.int .i64 f, .int .i64 n] w fun e w' => e = .returned (.bool (areB f n)) ∧ w' = w := by
  unfold areB
  by_cases h3 : 0 ≤ f
  · by_cases h1 : 1 ≤ n
    · by_cases h2 : n ≤ 64
      · by_cases h4 : f ≤ 64 - n
        · go_enter Tryz.func134, Tryz.ntmps134
          go_wp2
          go_ret
          refine ⟨ret_bool (by simp [h1, h2, h3, h4]), rfl⟩
        · have h4' : decide (f ≤ 64 - n) = false := by simp; omega
          go_enter Tryz.func134, Tryz.ntmps134
          go_wp2
          go_ret
          refine ⟨ret_bool (by first | (simp; done) | (simp; omega)), rfl⟩
      · go_enter Tryz.func134, Tryz.ntmps134
        go_wp2
        go_ret
        refine ⟨ret_bool (by first | (simp; done) | (simp; omega)), rfl⟩
    · go_enter Tryz.func134, Tryz.ntmps134
      go_wp2
      go_ret
      refine ⟨ret_bool (by first | (simp; done) | (simp; omega)), rfl⟩
  · go_enter Tryz.func134, Tryz.ntmps134
    go_wp2
    go_ret
    refine ⟨ret_bool (by first | (simp; done) | (simp; omega)), rfl⟩
theorem rbits_no (x : Int) (f n : Int) (w : World) (hb : areB f n = false) :
    Calls Tryz.prog 132 #[.int .u64 x, .int .i64 f, .int .i64 n] w fun e w' => e = .returned (.int .u64 0) ∧ w' = w := by
  go_enter Tryz.func132, Tryz.ntmps132
  go_wp2_with (go_at_call 134; refine (right_any _ _ _).mono ?_; rintro e w' ⟨rfl, rfl⟩)
  go_ret
  exact ⟨rfl, rfl⟩
/-- one bit more -/
theorem u64_step {r z k o : Nat} (hk : k < 64) (hr : r < 2 ^ k) (ho : o = 2 ^ k) :
    IntKind.u64.wrap ((r : Int) + IntKind.u64.wrap ((z : Int) % 2 * (o : Int))) = ((r + z % 2 * 2 ^ k : Nat) : Int) := by
  subst ho
  have h1 : 2 ^ k * 2 ≤ 18446744073709551616 := by rw [← Nat.pow_succ]; exact two_pow_lt64 (by omega)
  have h2 : z % 2 * 2 ^ k ≤ 1 * 2 ^ k := Nat.mul_le_mul_right _ (by omega)
  have e : (z : Int) % 2 * ((2 ^ k : Nat) : Int) = ((z % 2 * 2 ^ k : Nat) : Int) := by rw [Int.natCast_mul]; rfl
  rw [e, IntKind.wrap_u64, IntKind.wrap_u64]
  omega
theorem u64_two {k o : Nat} (hk : k < 64) (ho : o = 2 ^ k) : ∃ q : Nat, IntKind.u64.wrap ((o : Int) * 2) = (q : Int) ∧ q ≤ 18446744073709551615 ∧ (k + 1 < 64 → q = 2 ^ (k + 1)) := by
  refine ⟨(2 ^ (k + 1)) % 18446744073709551616, by rw [IntKind.wrap_u64, ho, Nat.pow_succ]; omega, by omega, fun h => Nat.mod_eq_of_lt ?_⟩
  have : 2 ^ (k + 1) < 2 ^ 64 := Nat.pow_lt_pow_right (by omega) h
  simpa using this
theorem rbits_yes (x f n : Nat) (w : World) (h1 : 1 ≤ n) (h2 : f + n ≤ 64) (hx : x ≤ 18446744073709551615) :
    Calls Tryz.prog 132 #[.int .u64 x, .int .i64 f, .int .i64 n] w fun e w' => e = .returned (.int .u64 (bitsN x f n)) ∧ w' = w := by
  have hb : areB f n = true := by simp [areB]; omega
  go_enter Tryz.func132, Tryz.ntmps132
  go_wp2_with (go_at_call 134; refine (right_any _ _ _).mono ?_; rintro e w' ⟨rfl, rfl⟩)
  go_loop [0, 7] (fun t i => ∃ k : Nat, k ≤ f ∧ i = .int .i64 k ∧ ∃ z : Nat, Hid (z = x / 2 ^ k) ∧ z ≤ 18446744073709551615 ∧ t = .int .u64 z) (fun _ i => f - (intOf i).toNat)
  case atStart => exact ⟨0, Nat.zero_le _, rfl, x, by simp [Hid], hx, rfl⟩
  case round =>
    obtain ⟨k, hk, rfl, z, hz, hz64, rfl⟩ := hrel
    by_cases hlt : k < f
    · go_wp2
      go_round
      case rel => exact ⟨k + 1, by omega, by go_num, z / 2, by unfold Hid; rw [hz.out, div_succ], by omega, by go_num⟩
      case measure => simp [intOf]; omega
    · have hkf : k = f := by omega
      have hz' : Hid (z = x / 2 ^ f) := by unfold Hid; rw [hz.out, hkf]
      clear hz hkf
      go_wp2
      go_loop [0, 8, 9, 10] (fun t o p i => ∃ k : Nat, k ≤ n ∧ i = .int .i64 k ∧ ∃ y r q : Nat, Hid (y = z / 2 ^ k) ∧ y ≤ 18446744073709551615 ∧ t = .int .u64 y ∧ Hid (r = z % 2 ^ k) ∧ r ≤ 18446744073709551615 ∧ o = .int .u64 r ∧ Hid (k < 64 → q = 2 ^ k) ∧ q ≤ 18446744073709551615 ∧ p = .int .u64 q) (fun _ _ _ i => n - (intOf i).toNat)
      case atStart => exact ⟨0, Nat.zero_le _, rfl, z, 0, 1, by simp [Hid], hz64, rfl, by simp [Hid, Nat.mod_one], by omega, rfl, by simp [Hid], by omega, rfl⟩
      case round =>
        obtain ⟨k, hk, rfl, y, r, q, hy, hy64, rfl, hr, hr64, rfl, hq, hq64, rfl⟩ := hrel
        by_cases hlt : k < n
        · go_wp2
          go_round
          case rel =>
            have hqq := hq.out (by omega)
            have hrl : r < 2 ^ k := by rw [hr.out]; exact Nat.mod_lt _ (Nat.two_pow_pos _)
            obtain ⟨q', e', hq', hq2⟩ := u64_two (show k < 64 by omega) hqq
            have e := u64_step (z := y) (show k < 64 by omega) hrl hqq
            have hm := mod_succ z k
            rw [← hr.out, ← hy.out] at hm
            have hb2 : r + y % 2 * 2 ^ k < 18446744073709551616 := by
              rw [← hm]; exact Nat.lt_of_lt_of_le (Nat.mod_lt _ (Nat.two_pow_pos _)) (two_pow_lt64 (by omega))
            refine ⟨k + 1, by omega, by go_num, y / 2, r + y % 2 * 2 ^ k, q', by unfold Hid; rw [hy.out, div_succ], by omega, by go_num, hm.symm, by omega, ?_, hq2, hq', ?_⟩
            · rw [← e]
            · rw [← e']
          case measure => simp [intOf]; omega
        · go_wp2
          go_ret
          have hkn : k = n := by omega
          exact ⟨ret_int (by rw [hr.out, hkn, hz'.out]; rfl), rfl⟩
end Go.Proofs.YtfakboehmcimpaaGreat

namespace Go.Proofs.YtfakboehmcimpaaGreat
open Go.ChangeShapes Go.WideShapes Go.ChangeAt Go.RowKit
set_option linter.unusedVariables false
set_option maxRecDepth 4000
set_option linter.unusedSimpArgs false
end Go.Proofs.YtfakboehmcimpaaGreat

namespace Go.Proofs.YtfakboehmcimpaaGreat
open Go.ChangeShapes Go.WideShapes Go.ChangeAt Go.RowKit
set_option linter.unusedVariables false
set_option maxRecDepth 4000
set_option linter.unusedSimpArgs false
def putLe (x n : Nat) : List UInt8 := (List.range n).map fun i => UInt8.ofNat (x / 256 ^ i)
def putBe (x n : Nat) : List UInt8 := (putLe x n).reverse
theorem putLe_length (x n : Nat) : (putLe x n).length = n := by simp [putLe]
theorem putBe_length (x n : Nat) : (putBe x n).length = n := by simp [putBe, putLe]
/-- the first k bytes laid, zeros behind -/
def partLe (x n k : Nat) : List UInt8 := putLe x k ++ List.replicate (n - k) 0
theorem partLe_set (x n k : Nat) (h : k < n) : partLe x n (k + 1) = (partLe x n k).set k (UInt8.ofNat (x / 256 ^ k)) := by
  unfold partLe
  rw [List.set_append_right _ _ (by rw [putLe_length]; exact Nat.le_refl _), putLe_length, Nat.sub_self]
  obtain ⟨m, hm⟩ : ∃ m, n - k = m + 1 := ⟨n - k - 1, by omega⟩
  rw [hm, show n - (k + 1) = m from by omega, List.replicate_succ, List.set_cons_zero]
  simp [putLe, List.range_succ]
theorem shr_byte (x k : Nat) : (x : Int) / 2 ^ (8 * k) % 256 = ((UInt8.ofNat (x / 256 ^ k)).toNat : Int) := by
  rw [UInt8.toNat_ofNat']
  have e : ((x : Int) / 2 ^ (8 * k)) = ((x / 256 ^ k : Nat) : Int) := by
    rw [Int.natCast_ediv, Int.natCast_pow, Int.pow_mul]; rfl
  rw [e]; rfl
theorem mod_byte (z : Nat) : (z : Int) % 256 = ((UInt8.ofNat z).toNat : Int) := by
  rw [UInt8.toNat_ofNat']; rfl
theorem div_byte (x k : Nat) : x / 256 ^ k / 256 = x / 256 ^ (k + 1) := by rw [Nat.div_div_eq_div_mul, Nat.pow_succ]
/-- the last k bytes laid, zeros ahead -/
def partBe (x n k : Nat) : List UInt8 := (partLe x n k).reverse
theorem partLe_length (x n k : Nat) (h : k ≤ n) : (partLe x n k).length = n := by simp [partLe, putLe_length]; omega
theorem reverse_set' {α : Type} (l : List α) (k : Nat) (b : α) (h : k < l.length) : (l.set k b).reverse = l.reverse.set (l.length - 1 - k) b := by
  apply List.ext_getElem
  · simp
  · intro i h1 h2
    simp only [List.length_reverse, List.length_set] at h1 h2
    simp only [List.getElem_reverse, List.getElem_set, List.length_set]
    by_cases e : k = l.length - 1 - i
    · rw [if_pos e, if_pos (by omega)]
    · rw [if_neg e, if_neg (by omega)]
theorem partBe_set (x n k : Nat) (h : k < n) : partBe x n (k + 1) = (partBe x n k).set (n - 1 - k) (UInt8.ofNat (x / 256 ^ k)) := by
  unfold partBe
  rw [partLe_set x n k h, reverse_set' _ _ _ (by rw [partLe_length x n k (by omega)]; exact h), partLe_length x n k (by omega)]
theorem partBe_zero (x n : Nat) : partBe x n 0 = List.replicate n 0 := by simp [partBe, partLe, putLe]
theorem partBe_all (x n : Nat) : partBe x n n = putBe x n := by simp [partBe, partLe, putBe]
theorem made_zero (n : Nat) : (madeCells #[Value.int .u8 0] n).toList = bv (List.replicate n 0) := by
  rw [bv_replicate]; exact toList_madeCells_one _ _
/-- one byte stored into a row of our own -/
theorem put_step {w w1 : World} {B g n k : Nat} {l : List UInt8} {b : UInt8} (hb : Below B w w1) (hBg : B ≤ g)
    (h : w1.ownsRow B 5 1 (.slice (some ⟨g, 0, none⟩) n n) n (bv l)) :
    (w1.setCell ⟨g, k, none⟩ (.int .u8 (b.toNat : Int))).ownsRow B 5 1 (.slice (some ⟨g, 0, none⟩) n n) n (bv (l.set k b)) ∧ Below B w (w1.setCell ⟨g, k, none⟩ (.int .u8 (b.toNat : Int))) := by
  refine ⟨?_, hb.setCell hBg _⟩
  rw [bv_set]
  exact (h.stored k _).1
theorem put_cell {w1 : World} {B g n k : Nat} {l : List UInt8} (hk : k < n)
    (h : w1.ownsRow B 5 1 (.slice (some ⟨g, 0, none⟩) n n) n (bv l)) : ∃ u : Value, w1.cell? ⟨g, k, none⟩ = some u := by
  rw [h.cellAt k (by omega)]
  have : k < (bv l).length := by rw [h.1]; omega
  exact ⟨(bv l)[k], by simp [this]⟩
theorem putBig_no (x n : Int) (w : World) (hn : isW n = false) :
    Calls Tryz.prog 67 #[.int .u64 x, .int .i64 n] w fun e w' => e = .returned (.slice none 0 0) ∧ w' = w := by
  go_enter Tryz.func67, Tryz.ntmps67
  go_wp2_with (go_at_call 104; refine (isWidth_any _ _).mono ?_; rintro e w' ⟨rfl, rfl⟩)
  go_ret
  exact ⟨rfl, rfl⟩
set_option maxHeartbeats 400000 in
theorem putBig_yes (x n : Nat) (w : World) (B : Nat) (hB : B ≤ w.heap.size) (hn1 : 1 ≤ n) (hn8 : n ≤ 8) (hx : x ≤ 18446744073709551615) :
    Calls Tryz.prog 67 #[.int .u64 x, .int .i64 n] w fun e w' => ∃ v, e = .returned v ∧ Below B w w' ∧ w'.ownsRow B 5 1 v n (bv (putBe x n)) := by
  have hw : isW n = true := by simp [isW]; omega
  obtain ⟨i0, hi, hz0, hz1, hz2⟩ := info_parts Tryz.info_u8
  have HZ := hide hz2
  clear hz2
  go_enter Tryz.func67, Tryz.ntmps67
  go_wp2_with (first
    | (go_at_call 104; refine (isWidth_any _ _).mono ?_; rintro e w' ⟨rfl, rfl⟩)
    | (at_make; refine wpList_make_full _ rfl _ _ 40 rfl B 5 i0 (.int .u8 0) 1 Tryz.underlying40 hi hz0 hz1 .i64 .i64 _ _ n rfl rfl rfl rfl ?c1 ?c2 ?c3 ?_))
  case c1 => rw [HZ.out]; omega
  case c2 => unfold maxLen; omega
  case c3 => exact hB
  rintro w1 hown hgrow
  have hb1 : Below B w' w1 := (Below.refl _ _).grown hgrow hB (fun k e => by cases e)
  rw [made_zero] at hown
  clear hgrow
  go_wp2
  go_loopw [13] (fun i wr => ∃ k : Nat, k ≤ n ∧ i = .int .i64 k ∧ wr.ownsRow B 5 1 (.slice (some ⟨w'.heap.size, 0, none⟩) n n) n (bv (partBe x n k)) ∧ Below B w' wr) (fun i _ => n - (intOf i).toNat)
  case atStart => exact ⟨0, Nat.zero_le _, rfl, by rw [partBe_zero]; exact hown, hb1⟩
  case round =>
    obtain ⟨k, hk, rfl, hownk, hbk⟩ := hrel
    by_cases hlt : k < n
    · obtain ⟨u, hcell⟩ := put_cell (k := (n - 1 - k)) (by omega) hownk
      have hfz := hownk.frozenAt (n - 1 - k)
      have hs := hide (put_step (k := (n - 1 - k)) (b := UInt8.ofNat (x / 256 ^ k)) hbk hB hownk)
      clear hownk hbk hown hb1
      go_wp2
      go_roundw
      case rel =>
        refine ⟨k + 1, by omega, by go_num, ?_⟩
        rw [partBe_set x n k hlt]
        simp only [shr_byte]
        exact hs.out
      case measure => simp [intOf] <;> omega
    · have hkn : Hid (k = n) := by unfold Hid; omega
      go_wp2
      go_ret
      refine ⟨_, rfl, hbk, ?_⟩
      have := hownk
      rw [hkn.out, partBe_all] at this
      exact this
theorem rputBig_no (x n : Int) (w : World) (hn : isW n = false) :
    Calls Tryz.prog 87 #[.int .u64 x, .int .i64 n] w fun e w' => e = .returned (.slice none 0 0) ∧ w' = w := by
  simp [isW] at hn
  by_cases h1 : n < 1
  all_goals
    go_enter Tryz.func87, Tryz.ntmps87
    go_wp2
    go_ret
    exact ⟨rfl, rfl⟩
set_option maxHeartbeats 400000 in
theorem rputBig_yes (x n : Nat) (w : World) (B : Nat) (hB : B ≤ w.heap.size) (hn1 : 1 ≤ n) (hn8 : n ≤ 8) (hx : x ≤ 18446744073709551615) :
    Calls Tryz.prog 87 #[.int .u64 x, .int .i64 n] w fun e w' => ∃ v, e = .returned v ∧ Below B w w' ∧ w'.ownsRow B 5 1 v n (bv (putBe x n)) := by
  have hw : isW n = true := by simp [isW]; omega
  obtain ⟨i0, hi, hz0, hz1, hz2⟩ := info_parts Tryz.info_u8
  have HZ := hide hz2
  clear hz2
  go_enter Tryz.func87, Tryz.ntmps87
  go_wp2_with (first
    | (go_at_call 104; refine (isWidth_any _ _).mono ?_; rintro e w' ⟨rfl, rfl⟩)
    | (at_make; refine wpList_make_full _ rfl _ _ 40 rfl B 5 i0 (.int .u8 0) 1 Tryz.underlying40 hi hz0 hz1 .i64 .i64 _ _ n rfl rfl rfl rfl ?c1 ?c2 ?c3 ?_))
  case c1 => rw [HZ.out]; omega
  case c2 => unfold maxLen; omega
  case c3 => exact hB
  rintro w1 hown hgrow
  have hb1 : Below B w w1 := (Below.refl _ _).grown hgrow hB (fun k e => by cases e)
  rw [made_zero] at hown
  clear hgrow
  go_wp2
  go_loopw [0, 6] (fun t i wr => ∃ k : Nat, k ≤ n ∧ i = .int .i64 ((n : Int) - 1 - (k : Int)) ∧ (∃ z : Nat, Hid (z = x / 256 ^ k) ∧ z ≤ 18446744073709551615 ∧ t = .int .u64 z) ∧ wr.ownsRow B 5 1 (.slice (some ⟨w.heap.size, 0, none⟩) n n) n (bv (partBe x n k)) ∧ Below B w wr) (fun _ i _ => (intOf i + 1).toNat)
  case atStart => exact ⟨0, Nat.zero_le _, by simp, ⟨x, by simp [Hid], hx, rfl⟩, by rw [partBe_zero]; exact hown, hb1⟩
  case round =>
    obtain ⟨k, hk, rfl, ⟨z, hz, hz64, rfl⟩, hownk, hbk⟩ := hrel
    by_cases hlt : k < n
    · obtain ⟨u, hcell⟩ := put_cell (k := (n - 1 - k)) (by omega) hownk
      have hfz := hownk.frozenAt (n - 1 - k)
      have hs := hide (put_step (k := (n - 1 - k)) (b := UInt8.ofNat z) hbk hB hownk)
      clear hownk hbk hown hb1
      go_wp2
      go_roundw
      case rel =>
        refine ⟨k + 1, by omega, by go_num, ⟨z / 256, by unfold Hid; rw [hz.out, div_byte], by omega, by go_num⟩, ?_⟩
        rw [partBe_set x n k hlt, ← hz.out]
        simp only [mod_byte]
        exact hs.out
      case measure => simp [intOf] <;> omega
    · have hkn : Hid (k = n) := by unfold Hid; omega
      go_wp2
      go_ret
      refine ⟨_, rfl, hbk, ?_⟩
      have := hownk
      rw [hkn.out, partBe_all] at this
      exact this
end Go.Proofs.YtfakboehmcimpaaGreat

namespace Go.Proofs.YtfakboehmcimpaaGreat
open Go.ChangeShapes Go.WideShapes Go.ChangeAt Go.RowKit
set_option linter.unusedVariables false
set_option maxRecDepth 4000
set_option linter.unusedSimpArgs false
def isT (n : Int) : Bool := decide (0 ≤ n ∧ n ≤ 1024)
def textOf (l : List UInt8) (n : Nat) : List UInt8 := l.take n ++ List.replicate (n - l.length) 32
theorem textOf_length (l : List UInt8) (n : Nat) : (textOf l n).length = n := by simp [textOf]; omega
theorem text_no (s : ByteArray) (n : Int) (w : World) (hn : isT n = false) :
    Calls Tryz.prog 99 #[.string s, .int .i64 n] w fun e w' => e = .returned (.slice none 0 0) ∧ w' = w := by
  simp [isT] at hn
  by_cases h1 : n < 0
  all_goals
    go_enter Tryz.func99, Tryz.ntmps99
    go_wp2
    go_ret
    exact ⟨rfl, rfl⟩
/-- the first k bytes laid -/
def partT (l : List UInt8) (n k : Nat) : List UInt8 := (textOf l n).take k ++ List.replicate (n - k) 0
theorem partT_set (l : List UInt8) (n k : Nat) (h : k < n) (hl : l.length ≤ k) : partT l n (k + 1) = (partT l n k).set k 32 := by
  unfold partT
  have h1 : ((textOf l n).take k).length = k := by rw [List.length_take, textOf_length]; omega
  rw [List.set_append_right _ _ (by omega), h1, Nat.sub_self]
  obtain ⟨m, hm⟩ : ∃ m, n - k = m + 1 := ⟨n - k - 1, by omega⟩
  rw [hm, show n - (k + 1) = m from by omega, List.replicate_succ, List.set_cons_zero]
  rw [List.take_succ_eq_append_getElem (by rw [textOf_length]; exact h)]
  simp [textOf, List.getElem_append, show min n l.length = l.length from by omega, show ¬ k < l.length from by omega]
theorem partT_start (l : List UInt8) (n : Nat) : l.take (Nat.min l.length n) ++ (List.replicate n (0 : UInt8)).drop (Nat.min l.length n) = partT l n (Nat.min l.length n) := by
  unfold partT textOf
  have h1 : Nat.min l.length n ≤ l.length := Nat.min_le_left _ _
  have h2 : Nat.min l.length n ≤ n := Nat.min_le_right _ _
  rw [List.take_append_of_le_length (by rw [List.length_take]; omega), List.take_take, List.drop_replicate]
  congr 2
  omega
theorem partT_all (l : List UInt8) (n : Nat) : partT l n n = textOf l n := by
  unfold partT
  rw [List.take_of_length_le (by rw [textOf_length]; exact Nat.le_refl _)]; simp
set_option maxHeartbeats 400000 in
theorem text_yes (s : ByteArray) (n : Nat) (w : World) (B : Nat) (hB : B ≤ w.heap.size) (hn : n ≤ 1024) (hs : s.size ≤ maxLen) :
    Calls Tryz.prog 99 #[.string s, .int .i64 n] w fun e w' => ∃ v, e = .returned v ∧ Below B w w' ∧ w'.ownsRow B 5 1 v n (bv (textOf s.data.toList n)) := by
  obtain ⟨i0, hi, hz0, hz1, hz2⟩ := info_parts Tryz.info_u8
  have HZ := hide hz2
  clear hz2
  have hsl : Hid (s.data.toList.length = s.size) := by unfold Hid; rw [Array.length_toList]; rfl
  unfold maxLen at hs
  have hd0 : decide ((n : Int) < 0) = false := by simp
  have hd1 : decide (1024 < (n : Int)) = false := by simp; omega
  go_enter Tryz.func99, Tryz.ntmps99
  go_wp2_with (at_make; refine wpList_make_full _ rfl _ _ 40 rfl B 5 i0 (.int .u8 0) 1 Tryz.underlying40 hi hz0 hz1 .i64 .i64 _ _ n rfl rfl rfl rfl ?c1 ?c2 ?c3 ?_)
  case c1 => rw [HZ.out]; omega
  case c2 => unfold maxLen; omega
  case c3 => exact hB
  rintro w1 hown hgrow
  have hb1 : Below B w w1 := (Below.refl _ _).grown hgrow hB (fun k e => by cases e)
  rw [made_zero] at hown
  clear hgrow
  obtain ⟨w2, hcopy, hown2, hb2⟩ := run_copy_str_own 3 B w.heap.size n s _ hB hown w hb1
  rw [← hsl.out, partT_start] at hown2
  have hm : Nat.min s.size n ≤ n := Nat.min_le_right _ _
  have hms : Hid (Nat.min s.size n < n → s.data.toList.length ≤ Nat.min s.size n) := by
    unfold Hid; intro h; rw [hsl.out]
    rcases Nat.le_total s.size n with hh | hh
    · rw [show Nat.min s.size n = s.size from Nat.min_eq_left hh]; exact Nat.le_refl _
    · rw [show Nat.min s.size n = n from Nat.min_eq_right hh] at h; omega
  rw [hsl.out] at hown2
  generalize Nat.min s.size n = m at hcopy hown2 hm hms
  have Hown2 := hide hown2
  have Hb2 := hide hb2
  clear hown hb1 hown2 hb2
  go_wp2
  go_loopw [6] (fun i wr => ∃ k : Nat, k ≤ n ∧ i = .int .i64 k ∧ Hid (k < n → s.data.toList.length ≤ k) ∧ wr.ownsRow B 5 1 (.slice (some ⟨w.heap.size, 0, none⟩) n n) n (bv (partT s.data.toList n k)) ∧ Below B w wr) (fun i _ => n - (intOf i).toNat)
  case atStart =>
    exact ⟨m, hm, rfl, hms, Hown2.out, Hb2.out⟩
  case round =>
    obtain ⟨k, hk, rfl, hsk, hownk, hbk⟩ := hrel
    by_cases hlt : k < n
    · obtain ⟨u, hcell⟩ := put_cell (k := k) (by omega) hownk
      have hfz := hownk.frozenAt k
      have hs2 := hide (put_step (k := k) (b := 32) hbk hB hownk)
      clear hownk hbk Hown2 Hb2 hcopy
      go_wp2
      go_roundw
      case rel =>
        refine ⟨k + 1, by omega, by go_num, by unfold Hid; intro h; have := hsk.out hlt; omega, ?_⟩
        rw [partT_set _ n k hlt (hsk.out hlt)]
        exact hs2.out
      case measure => simp [intOf] <;> omega
    · have hkn : Hid (k = n) := by unfold Hid; omega
      go_wp2
      go_ret
      refine ⟨_, rfl, hbk, ?_⟩
      have := hownk
      rw [hkn.out, partT_all] at this
      exact this
end Go.Proofs.YtfakboehmcimpaaGreat

namespace Go.Proofs.YtfakboehmcimpaaGreat
open Go.ChangeShapes Go.WideShapes Go.ChangeAt Go.RowKit
set_option linter.unusedVariables false
set_option maxRecDepth 4000
set_option linter.unusedSimpArgs false
/-! The calls' answers, for all arguments. -/
def putBeI (x : Nat) (n : Int) : List UInt8 := if isW n then putBe x n.toNat else []
def bitsI (x : Nat) (f n : Int) : Nat := if areB f n then bitsN x f.toNat n.toNat else 0
def textI (l : List UInt8) (n : Int) : List UInt8 := if isT n then textOf l n.toNat else []
theorem puts_c {k : Nat} {val : Nat → Nat → List UInt8} (hlen : ∀ x n, (val x n).length = n) (hno : ∀ (x n : Int) (w : World) (hn : isW n = false), Calls Tryz.prog k #[.int .u64 x, .int .i64 n] w fun e w' => e = .returned (.slice none 0 0) ∧ w' = w)
    (hyes : ∀ (x n : Nat) (w : World) (B : Nat) (hB : B ≤ w.heap.size) (hn1 : 1 ≤ n) (hn8 : n ≤ 8) (hx : x ≤ 18446744073709551615), Calls Tryz.prog k #[.int .u64 x, .int .i64 n] w fun e w' => ∃ v, e = .returned v ∧ Below B w w' ∧ w'.ownsRow B 5 1 v n (bv (val x n)))
    (x : Nat) (n : Int) (w : World) (B : Nat) (hB : B ≤ w.heap.size) (hx : x ≤ 18446744073709551615) :
    Calls Tryz.prog k #[.int .u64 x, .int .i64 n] w fun e w' => ∃ v, e = .returned v ∧ Below B w w' ∧ w'.ownsRow B 5 1 v (if isW n then val x n.toNat else []).length (bv (if isW n then val x n.toNat else [])) := by
  by_cases h : isW n = true
  · have h' := h
    simp [isW] at h'
    obtain ⟨n', rfl⟩ := Int.eq_ofNat_of_zero_le (show 0 ≤ n by omega)
    refine (hyes x n' w B hB (by omega) (by omega) hx).mono fun e w' he => ?_
    rw [h]
    simpa [hlen] using he
  · have h' : isW n = false := by simpa using h
    refine (hno x n w h').mono fun e w' he => ?_
    obtain ⟨rfl, rfl⟩ := he
    rw [h']
    exact ⟨_, rfl, Below.refl _ _, World.ownsRow_nil _ _ _ _⟩
theorem putBig_c (x : Nat) (n : Int) (w : World) (B : Nat) (hB : B ≤ w.heap.size) (hx : x ≤ 18446744073709551615) :
    Calls Tryz.prog 67 #[.int .u64 x, .int .i64 n] w fun e w' => ∃ v, e = .returned v ∧ Below B w w' ∧ w'.ownsRow B 5 1 v (putBeI x n).length (bv (putBeI x n)) := puts_c putBe_length putBig_no putBig_yes x n w B hB hx
theorem rputBig_c (x : Nat) (n : Int) (w : World) (B : Nat) (hB : B ≤ w.heap.size) (hx : x ≤ 18446744073709551615) :
    Calls Tryz.prog 87 #[.int .u64 x, .int .i64 n] w fun e w' => ∃ v, e = .returned v ∧ Below B w w' ∧ w'.ownsRow B 5 1 v (putBeI x n).length (bv (putBeI x n)) := puts_c putBe_length rputBig_no rputBig_yes x n w B hB hx
theorem texts_c {k : Nat} (hno : ∀ (s : ByteArray) (n : Int) (w : World) (hn : isT n = false), Calls Tryz.prog k #[.string s, .int .i64 n] w fun e w' => e = .returned (.slice none 0 0) ∧ w' = w)
    (hyes : ∀ (s : ByteArray) (n : Nat) (w : World) (B : Nat) (hB : B ≤ w.heap.size) (hn : n ≤ 1024) (hs : s.size ≤ maxLen), Calls Tryz.prog k #[.string s, .int .i64 n] w fun e w' => ∃ v, e = .returned v ∧ Below B w w' ∧ w'.ownsRow B 5 1 v n (bv (textOf s.data.toList n)))
    (s : ByteArray) (n : Int) (w : World) (B : Nat) (hB : B ≤ w.heap.size) (hs : s.size ≤ maxLen) :
    Calls Tryz.prog k #[.string s, .int .i64 n] w fun e w' => ∃ v, e = .returned v ∧ Below B w w' ∧ w'.ownsRow B 5 1 v (textI s.data.toList n).length (bv (textI s.data.toList n)) := by
  unfold textI
  by_cases h : isT n = true
  · have h' := h
    simp [isT] at h'
    obtain ⟨n', rfl⟩ := Int.eq_ofNat_of_zero_le (show 0 ≤ n by omega)
    refine (hyes s n' w B hB (by omega) hs).mono fun e w' he => ?_
    rw [h]
    simpa [textOf_length] using he
  · have h' : isT n = false := by simpa using h
    refine (hno s n w h').mono fun e w' he => ?_
    obtain ⟨rfl, rfl⟩ := he
    rw [h']
    exact ⟨_, rfl, Below.refl _ _, World.ownsRow_nil _ _ _ _⟩
theorem text_c (s : ByteArray) (n : Int) (w : World) (B : Nat) (hB : B ≤ w.heap.size) (hs : s.size ≤ maxLen) :
    Calls Tryz.prog 99 #[.string s, .int .i64 n] w fun e w' => ∃ v, e = .returned v ∧ Below B w w' ∧ w'.ownsRow B 5 1 v (textI s.data.toList n).length (bv (textI s.data.toList n)) := texts_c text_no text_yes s n w B hB hs
theorem rbits_c (x : Nat) (f n : Int) (w : World) (hx : x ≤ 18446744073709551615) :
    Calls Tryz.prog 132 #[.int .u64 x, .int .i64 f, .int .i64 n] w fun e w' => e = .returned (.int .u64 (bitsI x f n : Int)) ∧ w' = w := by
  unfold bitsI
  by_cases h : areB f n = true
  · obtain ⟨a, b, rfl, rfl, h1, h2⟩ := areB_nat h
    refine (rbits_yes x a b w h1 h2 hx).mono fun e w' he => ?_
    rw [h]; simpa using he
  · have h' : areB f n = false := by simpa using h
    refine (rbits_no x f n w h').mono fun e w' he => ?_
    rw [h']; simpa using he
end Go.Proofs.YtfakboehmcimpaaGreat

namespace Go.Proofs.YtfakboehmcimpaaGreat
open Go.ChangeShapes Go.WideShapes Go.ChangeAt Go.RowKit
set_option linter.unusedVariables false
set_option maxRecDepth 4000
set_option linter.unusedSimpArgs false
end Go.Proofs.YtfakboehmcimpaaGreat

namespace Go.Proofs.YtfakboehmcimpaaGreat
open Go.ChangeShapes Go.WideShapes Go.ChangeAt Go.RowKit
set_option linter.unusedVariables false
set_option maxRecDepth 4000
set_option linter.unusedSimpArgs false
end Go.Proofs.YtfakboehmcimpaaGreat

namespace Go.Proofs.YtfakboehmcimpaaGreat
open Go.ChangeShapes Go.WideShapes Go.ChangeAt Go.RowKit
set_option linter.unusedVariables false
set_option maxRecDepth 4000
set_option linter.unusedSimpArgs false
/-! The document's inquiry: Serial, first, Standard, Cut. -/
def serL (lun : Int) : List UInt8 := [82, 84, 48, 48, 48, 48, 48, UInt8.ofNat (48 + (lun % 8).toNat)]
def firstB (there : Bool) : UInt8 := if there then 0 else 127
def stdL (there : Bool) : List UInt8 := [firstB there, 128, 6, 2, 31, 0, 0, 2, 82, 69, 84, 73, 67, 85, 76, 69, 71, 65, 68, 71, 69, 84, 32, 68, 73, 83, 75, 32, 32, 32, 32, 32, 48, 48, 48, 49]
theorem rfirst7_c (there : Bool) (w : World) : Calls Tryz.prog 115 #[.bool there] w fun e w' => e = .returned (.int .u8 ((firstB there).toNat : Int)) ∧ w' = w := by
  cases there with
  | true =>
    go_enter Tryz.func115, Tryz.ntmps115
    go_wp2
    go_ret
    exact ⟨rfl, rfl⟩
  | false =>
    go_enter Tryz.func115, Tryz.ntmps115
    go_wp2
    go_ret
    exact ⟨rfl, rfl⟩
theorem bits3 (x : Nat) : bitsI x 0 3 = x % 8 := by
  unfold bitsI
  rw [if_pos (by decide)]
  simp [bitsN]
set_option maxHeartbeats 1000000 in
theorem rserial_c (lun : Int) (w : World) (hl : -9223372036854775808 ≤ lun ∧ lun ≤ 9223372036854775807) : Calls Tryz.prog 116 #[.int .i64 lun] w fun e w' => e = .returned (.string (strOf (serL lun))) ∧ Later w w' := by
  obtain ⟨x, hx, hx2⟩ : ∃ x : Nat, IntKind.u64.wrap lun = (x : Int) ∧ x ≤ 18446744073709551615 := ⟨(lun % 18446744073709551616).toNat, by rw [IntKind.wrap_u64]; omega, by omega⟩
  have hd : x % 8 = (lun % 8).toNat := by rw [IntKind.wrap_u64] at hx; omega
  obtain ⟨d, hd2⟩ : ∃ d : Nat, d = x % 8 := ⟨_, rfl⟩
  have hd8 : d < 8 := by omega
  have HS : Hid (serL lun = [82, 84, 48, 48, 48, 48, 48, UInt8.ofNat (48 + d)]) := by rw [Hid, serL, ← hd, ← hd2]
  have HB : Hid (bitsI x 0 3 = d) := by rw [Hid, bits3, hd2]
  clear hd hd2
  have LL := hide ((Later.refl w).alloc (.cells #[.string ⟨#[48]⟩, .string ⟨#[49]⟩, .string ⟨#[50]⟩, .string ⟨#[51]⟩, .string ⟨#[52]⟩, .string ⟨#[53]⟩, .string ⟨#[54]⟩, .string ⟨#[55]⟩] 9))
  have BX := hide (Box.new w 9 #[.string ⟨#[48]⟩, .string ⟨#[49]⟩, .string ⟨#[50]⟩, .string ⟨#[51]⟩, .string ⟨#[52]⟩, .string ⟨#[53]⟩, .string ⟨#[54]⟩, .string ⟨#[55]⟩])
  go_enter Tryz.func116, Tryz.ntmps116
  go_wp2_with fail
  refine (rbits_c x 0 3 _ hx2).mono ?_
  rintro e w' ⟨rfl, hw⟩
  have hw2 := hw.symm
  subst hw2
  clear hw
  rw [HB.out]
  rcases (show d = 0 ∨ d = 1 ∨ d = 2 ∨ d = 3 ∨ d = 4 ∨ d = 5 ∨ d = 6 ∨ d = 7 by omega) with rfl | rfl | rfl | rfl | rfl | rfl | rfl | rfl <;>
  · have k0 := BX.out.cell 0
    have k1 := BX.out.cell 1
    have k2 := BX.out.cell 2
    have k3 := BX.out.cell 3
    have k4 := BX.out.cell 4
    have k5 := BX.out.cell 5
    have k6 := BX.out.cell 6
    have k7 := BX.out.cell 7
    go_wp2
    go_ret
    refine ⟨by rw [HS.out]; rfl, LL.out⟩
end Go.Proofs.YtfakboehmcimpaaGreat

namespace Go.Proofs.YtfakboehmcimpaaGreat
open Go.ChangeShapes Go.WideShapes Go.ChangeAt Go.RowKit
set_option linter.unusedVariables false
set_option maxRecDepth 4000
set_option linter.unusedSimpArgs false
/-! Bytes of a constant text, and of any text. -/
theorem owns_box {w : World} {g n B : Nat} {e : TypeId} {l : List UInt8} (h : Box w g e (bv l)) (hl : l.length = n) (hm : n ≤ 1000000) (hB : B ≤ g) : w.ownsRow B e 1 (.slice (some ⟨g, 0, none⟩) n n) n (bv l) :=
  ⟨by rw [bv_length]; omega, .inr ⟨g, n, (bv l).toArray, rfl, hB, h, Nat.le_refl _, by unfold maxLen; omega, by simp [bv_length]; omega, List.take_of_length_le (by simp [bv_length]; omega)⟩⟩
theorem cell_freeze (w : World) (a b : Addr) (n : Nat) : (w.freeze a n).cell? b = w.cell? b := by
  unfold World.freeze
  split
  · rfl
  · unfold World.cell?
    simp only [Array.getElem?_modify]
    by_cases h : a.block = b.block
    · rw [if_pos h]
      cases hh : w.heap[b.block]? with
      | none => rfl
      | some o => cases o <;> rfl
    · rw [if_neg h]
theorem later_freeze {w0 w : World} (h : Later w0 w) {a : Addr} (hg : w0.heap.size ≤ a.block) (n : Nat) : Later w0 (w.freeze a n) := by
  unfold World.freeze
  split
  · exact h
  · refine ⟨h.os, h.tape, h.output, by simpa using h.size, fun k hk => ?_⟩
    simp only [Array.getElem?_modify]
    rw [if_neg (by omega)]
    exact h.block k hk
theorem heap_freeze_other (w : World) (a : Addr) (n k : Nat) (h : a.block ≠ k) : (w.freeze a n).heap[k]? = w.heap[k]? := by
  unfold World.freeze
  split
  · rfl
  · simp only [Array.getElem?_modify]
    rw [if_neg h]
theorem run_conv_box {w : World} {g n c : Nat} {l : List UInt8} (hB : Box w g 5 (bv l)) : (convert 40 40 (.slice (some ⟨g, 0, none⟩) n c)).run Tryz.prog w = .ok (.slice (some ⟨g, 0, none⟩) n c) (w.freeze ⟨g, l.length, none⟩ 1) := by
  have hsh : w.shape? g = some (5, l.length) := by unfold World.shape?; rw [hB]; simp [bv_length]
  simp [convert, run_underlying Tryz.underlying40, run_underlying Tryz.underlying5, markStringish, hsh]
/-- '[]byte("..")': the world behind it stands by itself -/
theorem wpList_conv {w : World} {ops : Array Oper} {rest : List Oper} {o : Oper} {a : Act} {Q : Exit → Act → World → Prop} (hg : o.guard = none) (x : Operand) (hop : o.op = Op.convert 40 40 x) (g n : Nat) (l : List UInt8) (hx : a.eval x = .slice (some ⟨g, 0, none⟩) n n) (hB : Box w g 5 (bv l)) (hl : l.length = n) (hm : n ≤ 1000000)
    (h : ∀ w', Bs w' (.slice (some ⟨g, 0, none⟩) n n) l → Hid (w' = w.freeze ⟨g, l.length, none⟩ 1) → wpList Tryz.prog ops Q rest (a.put o.dst (.slice (some ⟨g, 0, none⟩) n n)) w') : wpList Tryz.prog ops Q (o :: rest) a w := by
  refine wpList_plain hg fun K hK => ?_
  have hrun := run_conv_box (n := n) (c := n) hB
  have hb : Bs (w.freeze ⟨g, l.length, none⟩ 1) (.slice (some ⟨g, 0, none⟩) n n) l := (bs_of_box hB rfl hl hm).cellsOf fun b u hu => by rw [cell_freeze]; exact hu
  unfold Go.Oper.wp
  simp [execOp, hop, hx, hrun, Result.andThen]
  exact hK _ _ (h _ hb rfl)
theorem later_bytes (w : World) (e : TypeId) (s : ByteArray) : Later w (Lib.bytesWorld w e s) := by
  unfold Lib.bytesWorld
  exact later_freeze (((Later.refl w).drew).alloc _) (Nat.le_refl _) _
theorem bs_bytes (w : World) (l : List UInt8) (hl : l.length ≤ 1000000) : Bs (Lib.bytesWorld w 5 (strOf l)) (.slice (some ⟨w.heap.size, 0, none⟩) l.length (grownCap w l.length 0 5)) l := by
  refine ⟨by unfold maxLen; omega, some ⟨w.heap.size, 0, none⟩, _, rfl, ?_, .inr ⟨w.heap.size, 0, rfl, fun j hj => ?_⟩⟩
  · exact grownCap_ge _ _ _ _
  · rw [Nat.zero_add, Lib.bytesWorld_cell w 5 (strOf l) j (by simpa [strOf, ByteArray.size] using hj)]
    simp [strOf, List.getD, hj]
set_option maxHeartbeats 1000000 in
theorem rstandard_c (there : Bool) (w : World) : Calls Tryz.prog 79 #[.bool there] w fun e w' => ∃ v, e = .returned v ∧ Later w w' ∧ Bs w' v (stdL there) := by
  have HS : Hid (stdL there = [firstB there, 128, 6, 2, 31, 0, 0, 2] ++ [82, 69, 84, 73, 67, 85, 76, 69, 71, 65, 68, 71, 69, 84, 32, 68, 73, 83, 75, 32, 32, 32, 32, 32, 48, 48, 48, 49]) := rfl
  go_enter Tryz.func79, Tryz.ntmps79
  go_wp2_with fail
  refine (rfirst7_c there _).mono ?_
  rintro e w' ⟨rfl, hw⟩
  have hw2 := hw.symm
  subst hw2
  clear hw
  generalize firstB there = f at *
  go_wp2_with (first | (at_builtin; fail) | (refine wpList_conv rfl (.tmp 6) rfl (w.heap.size + 1) 28 [82, 69, 84, 73, 67, 85, 76, 69, 71, 65, 68, 71, 69, 84, 32, 68, 73, 83, 75, 32, 32, 32, 32, 32, 48, 48, 48, 49] rfl (Box.new' _ _ _ _ rfl _ (by simp)) rfl (by decide) ?_))
  intro w2 hb2 hw2
  have LL : Hid (Later w w2) := by rw [Hid, hw2.out]; exact later_freeze (((Later.refl w).alloc _).alloc _) (Nat.le_succ _) _
  have B2 : Hid (Box w2 w.heap.size 5 (bv [f, 128, 6, 2, 31, 0, 0, 2])) := by
    rw [Hid, hw2.out]
    unfold Box
    rw [heap_freeze_other _ _ _ _ (by show w.heap.size + 1 ≠ w.heap.size; omega)]
    exact (Box.new w 5 #[.int .u8 (f.toNat : Int), .int .u8 128, .int .u8 6, .int .u8 2, .int .u8 31, .int .u8 0, .int .u8 0, .int .u8 2]).alloc _
  have V2 := hide hb2
  clear hb2 hw2
  go_wp2_with (at_builtin; refine wpList_append_bs rfl (.tmp 5) (.tmp 7) rfl w.heap.size _ 8 [f, 128, 6, 2, 31, 0, 0, 2] rfl (owns_box B2.out rfl (by decide) (Nat.le_refl _)) _ [82, 69, 84, 73, 67, 85, 76, 69, 71, 65, 68, 71, 69, 84, 32, 68, 73, 83, 75, 32, 32, 32, 32, 32, 48, 48, 48, 49] rfl V2.out (by decide) LL.out.size w LL.out ?_)
  intro v3 w3 ho hb hg
  have V3 := hide (Bs.of_owns ho).1
  have L3 : Hid (Later w w3) := hb
  clear ho hb hg
  go_wp2
  go_ret
  exact ⟨_, rfl, L3.out, by rw [HS.out]; exact V3.out⟩
end Go.Proofs.YtfakboehmcimpaaGreat
