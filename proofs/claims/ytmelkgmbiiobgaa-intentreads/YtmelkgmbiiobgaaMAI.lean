import Derived.Lib.ConvBytes
import Derived.Deep.OwnRows
import Derived.Test.YtmelkgmbiiobgaaMAH
import Derived.Test.YtmelkgmbiiobgaaMAA
import Derived.Test.YtmelkgmbiiobgaaMAG
import Derived.Test.YtmelkgmbiiobgaaMAC
namespace Go.Proofs.Ytmelkgmbiiobgaa
open Go.ChangeShapes Go.WideShapes Go.ChangeAt Go.RowKit
set_option linter.unusedVariables false
set_option maxRecDepth 4000
set_option linter.unusedSimpArgs false
/-! The document's answers for slots: Read. -/
theorem checkS_zero {n : Nat} {D : List Drt} {p r : Bool} {at_ : Nat} {m : Int} {wr : Bool} (h : checkS n D p r at_ m wr = (0, 0, 0)) : p = true ∧ (r && wr) = false ∧ withinB (allN n D) at_ m = true := by
  unfold checkS at h
  cases p with
  | false => simp at h
  | true =>
    simp only [Bool.not_true, Bool.false_eq_true, if_false] at h
    split at h
    · simp at h
    · rename_i h1
      split at h
      · rename_i h2; exact ⟨rfl, by simpa using h1, h2⟩
      · simp at h
def rdL (n : Nat) (F : List UInt8) (D : List Drt) (S : Sns) (at_ : Nat) (m : Int) : List UInt8 := if S == (0, 0, 0) then seg (allF n F D) (at_ * 64) (m.toNat * 64) else []
theorem allN_small (n : Nat) (D : List Drt) : allN n D ≤ 64 := by
  unfold allN
  split
  · rename_i h; simp only [rightB, decide_eq_true_eq] at h; exact h.1
  · omega
set_option maxRecDepth 20000 in
set_option maxHeartbeats 2000000 in
theorem rread5_c {v : Value} {n : Nat} {F : List UInt8} {D : List Drt} {p r l : Bool} (at_ : Nat) (m : Int) (w : World) (h : Slt w v n F D p r l) (ha : at_ ≤ 18446744073709551615) :
    Calls Try.prog 13 #[v, .int .u64 at_, .int .i64 m] w fun e w' => ∃ v', e = .returned (.tuple #[v', sval (checkS n D p r at_ m false)]) ∧ Later w w' ∧ Bs w' v' (rdL n F D (checkS n D p r at_ m false) at_ m) := by
  have HS := hide h
  obtain ⟨ab, cb, aD, k, cD, rfl, hm⟩ := h
  have HM := hide hm
  clear hm
  have BX : Hid (Box ((w.alloc (.cells #[.slice ab n cb, .slice aD k cD, .bool p, .bool r, .bool l] 27)).alloc (.cells #[.int .i64 0, .int .i64 0, .int .i64 0] 30)) w.heap.size 27 (tc (.slice ab n cb) (.slice aD k cD) p r l)) := (Box.new w 27 #[.slice ab n cb, .slice aD k cD, .bool p, .bool r, .bool l]).alloc _
  have BS : Hid (Box ((w.alloc (.cells #[.slice ab n cb, .slice aD k cD, .bool p, .bool r, .bool l] 27)).alloc (.cells #[.int .i64 0, .int .i64 0, .int .i64 0] 30)) (w.heap.size + 1) 30 (sc (0, 0, 0))) := Box.new' _ _ _ _ rfl _ (by simp)
  have L := hide (((Later.refl w).alloc (.cells #[.slice ab n cb, .slice aD k cD, .bool p, .bool r, .bool l] 27)).alloc (.cells #[.int .i64 0, .int .i64 0, .int .i64 0] 30))
  go_enter Try.func13, Try.ntmps13
  go_wp2_with fail
  generalize ((w.alloc (.cells #[.slice ab n cb, .slice aD k cD, .bool p, .bool r, .bool l] 27)).alloc (.cells #[.int .i64 0, .int .i64 0, .int .i64 0] 30)) = w1 at *
  refine (rcheck_c at_ m false w1 (HS.out.later L.out) ha).mono ?_
  rintro e w2 ⟨rfl, hl⟩
  replace BX := hide (BX.out.later hl)
  replace BS := hide (BS.out.later hl)
  replace L := hide (L.out.later hl)
  clear hl
  have HZ := hide (fun h => checkS_zero (n := n) (D := D) (p := p) (r := r) (at_ := at_) (m := m) (wr := false) h)
  generalize hS : checkS n D p r at_ m false = S at *
  have HSv := hide hS
  clear hS
  go_wp2_with (refine wpList_newS rfl rfl rfl 8 rfl (by simp) (.tmp 14) (by simp) rfl S rfl ?_)
  intro g8 w3 hB hl hg
  replace BX := hide (BX.out.later hl)
  replace BS := hide (BS.out.later hl)
  replace L := hide (L.out.later hl)
  have B8 := hide hB
  clear hB hl hg
  have e0 := B8.out.cell 0
  have e1 := B8.out.cell 1
  have e2 := B8.out.cell 2
  cases hz : (S == ((0, 0, 0) : Sns)) with
  | false =>
    have hRd : Hid (rdL n F D S at_ m = []) := by simp only [Hid, rdL, hz]; rfl
    go_wp2_with (refine wpList_neqS (by kernel_rfl) (.tmp 15) (.tmp 16) rfl S (0, 0, 0) rfl rfl ?_; rw [hz])
    clear e0 e1 e2
    refine wp_region_tree [0, 1] [] [2] (by kernel_rfl) (by kernel_rfl) (by kernel_rfl) (by kernel_rfl) ?_
    refine wpT_loadG rfl (by kernel_rfl) 30 (.tmp 8) rfl g8 0 rfl (sc S) _ ((World.rangeAt_drew _ _ _ _).2 B8.out.range) Try.underlying30 rfl Try.info_sense ?_
    refine wpT_mild rfl (fun K hK => ?_)
    go_simp
    refine hK _ ?_
    clear hK K
    refine wpT_done (fun wx hwx => ?_)
    have hlx := (Later.refl w3).drew.trans hwx
    replace BS := hide (BS.out.later hlx)
    replace L := hide (L.out.later hlx)
    clear hwx hlx BX B8
    refine wpL_store rfl (by kernel_rfl) 30 (.tmp 7) (.tmp 18) rfl (w.heap.size + 1) 0 (sc S) rfl rfl (BS.out.there 0 3 (by simp)) Try.info_sense (sc_one _) (wpL_nil ?_)
    have BZ := hide (BS.out.all (sc S) rfl)
    have LZ := hide (L.out.setCells (g := w.heap.size + 1) (by omega) (sc S) 0)
    clear BS L
    generalize (wx.setCells (w.heap.size + 1) 0 (sc S)) = wz at *
    go_wp2
    refine bodyPost_ret (results_tmp_cell' rfl _ _ _ (w.heap.size + 1) 0 rfl (sval S) (.slice none 0 0) (shut3 BZ.out) rfl) rfl ⟨.slice none 0 0, ?_, LZ.out, ?_⟩
    · rw [HSv.out]
    · rw [HSv.out, hRd.out]; exact Bs.nil _
  | true =>
    obtain rfl : S = (0, 0, 0) := eq_of_beq hz
    have hq := HZ.out rfl
    have hRd : Hid (rdL n F D (0, 0, 0) at_ m = readL (allN n D) (allF n F D) at_ m) := by
      have h1 := allN_small n D
      simp only [Hid, rdL, readL, hz, if_true, if_neg (show ¬ 64 < allN n D by omega), hq.2.2]
    clear hq HZ hz
    have d0 := BX.out.cell 0
    have d1 := BX.out.cell 1
    go_wp2_with (refine wpList_neqS (by kernel_rfl) (.tmp 15) (.tmp 16) rfl (0, 0, 0) (0, 0, 0) rfl rfl ?_; rw [show (((0, 0, 0) : Sns) == (0, 0, 0)) = true from rfl])
    refine (rall_c w3 (HM.out.later L.out)).mono ?_
    rintro e w4 ⟨v4, rfl, hl, h4⟩
    replace BX := hide (BX.out.later hl)
    replace BS := hide (BS.out.later hl)
    replace L := hide (L.out.later hl)
    replace B8 := hide (B8.out.later hl)
    have R4 := hide (Rw.of_owns h4)
    clear hl h4 d0 d1 e0 e1 e2
    obtain ⟨a4, c4, rfl⟩ := R4.out.shape
    go_wp2_with fail
    refine (rread_c at_ m w4 R4.out ha).mono ?_
    rintro e w5 ⟨v5, rfl, hl, h5⟩
    rw [← hRd.out] at h5
    have O5 : Hid (w5.ownsRow w.heap.size 5 1 v5 (rdL n F D (0, 0, 0) at_ m).length (bv (rdL n F D (0, 0, 0) at_ m))) := owns_rebase h5 L.out.size
    replace BX := hide (BX.out.later hl)
    replace BS := hide (BS.out.later hl)
    replace L := hide (L.out.later hl)
    replace B8 := hide (B8.out.later hl)
    clear hl h5 R4
    go_wp2_with fail
    refine wp_region_tree [0, 1, 2] [] [3] (by kernel_rfl) (by kernel_rfl) (by kernel_rfl) (by kernel_rfl) ?_
    refine wpT_mild rfl (fun K hK => ?_)
    go_simp
    refine hK _ ?_
    clear hK K
    refine wpT_loadG rfl (by kernel_rfl) 30 (.tmp 8) rfl g8 0 rfl (sc (0, 0, 0)) _ ((World.rangeAt_drew _ _ _ _).2 B8.out.range) Try.underlying30 rfl Try.info_sense ?_
    refine wpT_mild rfl (fun K hK => ?_)
    go_simp
    refine hK _ ?_
    clear hK K
    refine wpT_done (fun wx hwx => ?_)
    have hlx := (Later.refl w5).drew.trans hwx
    replace BS := hide (BS.out.later hlx)
    replace L := hide (L.out.later hlx)
    have B5 := hide (owns_later O5.out hlx)
    clear hwx hlx BX B8 O5
    refine wpL_store rfl (by kernel_rfl) 30 (.tmp 7) (.tmp 29) rfl (w.heap.size + 1) 0 (sc (0, 0, 0)) rfl rfl (BS.out.there 0 3 (by simp)) Try.info_sense (sc_one _) (wpL_nil ?_)
    have BZ := hide (BS.out.all (sc (0, 0, 0)) rfl)
    have LZ := hide (L.out.setCells (g := w.heap.size + 1) (by omega) (sc (0, 0, 0)) 0)
    have OZ : Hid ((wx.setCells (w.heap.size + 1) 0 (sc (0, 0, 0))).ownsRow w.heap.size 5 1 v5 (rdL n F D (0, 0, 0) at_ m).length (bv (rdL n F D (0, 0, 0) at_ m))) := owns_kept B5.out fun g hg => heap_setCells_other wx (w.heap.size + 1) g (fun e => box_ne_own BS.out B5.out (by decide) g hg e.symm) _ _
    clear BS L B5
    generalize (wx.setCells (w.heap.size + 1) 0 (sc (0, 0, 0))) = wz at *
    go_wp2
    refine bodyPost_ret (results_tmp_cell' rfl _ _ _ (w.heap.size + 1) 0 rfl (sval (0, 0, 0)) v5 (shut3 BZ.out) rfl) rfl ⟨v5, ?_, LZ.out, ?_⟩
    · rw [HSv.out]
    · rw [HSv.out]; exact (Bs.of_owns OZ.out).1
end Go.Proofs.Ytmelkgmbiiobgaa

namespace Go.Proofs.Ytmelkgmbiiobgaa
open Go.ChangeShapes Go.WideShapes Go.ChangeAt Go.RowKit
set_option linter.unusedVariables false
set_option maxRecDepth 4000
set_option linter.unusedSimpArgs false
/-! The document's answers for slots: Put. -/
theorem box_ne {w : World} {g g' : Nat} {t t' : TypeId} {xs ys : List Value} (h : Box w g t xs) (h' : Box w g' t' ys) (hne : t ≠ t') : g ≠ g' := by
  intro e
  subst e
  unfold Box at h h'
  rw [h] at h'
  simp at h'
  exact hne h'.2
theorem Med.setOff {w : World} {a b : Value} {n : Nat} {F : List UInt8} {D : List Drt} {g : Nat} (h : Med w (.agg #[a, b]) n F D) (h1 : OffS g a) (h2 : OffS g b) (vs : List Value) (o : Nat) : Med (w.setCells g o vs) (.agg #[a, b]) n F D := by
  obtain ⟨vb, vd, e, hb, hd, ho⟩ := h
  simp at e
  obtain ⟨rfl, rfl⟩ := e
  exact ⟨_, _, rfl, hb.setOff h1 vs o, hd.setOff h2 vs o, ho⟩
end Go.Proofs.Ytmelkgmbiiobgaa

namespace Go.Proofs.Ytmelkgmbiiobgaa
open Go.ChangeShapes Go.WideShapes Go.ChangeAt Go.RowKit
set_option linter.unusedVariables false
set_option maxRecDepth 4000
set_option linter.unusedSimpArgs false
theorem isWidth_any (a : Int) (w : World) :
    Calls Try.prog 83 #[.int .i64 a] w fun e w' => e = .returned (.bool (isW a)) ∧ w' = w := by
  unfold isW
  by_cases h1 : 1 ≤ a
  · by_cases h2 : a ≤ 8
    all_goals
      go_enter Try.func83, Try.ntmps83
      go_wp2
      go_ret
      refine ⟨ret_bool (by first | (simp; done) | (simp; omega)), rfl⟩
  · go_enter Try.func83, Try.ntmps83
    go_wp2
    go_ret
    refine ⟨ret_bool (by first | (simp; done) | (simp; omega)), rfl⟩
end Go.Proofs.Ytmelkgmbiiobgaa

namespace Go.Proofs.Ytmelkgmbiiobgaa
open Go.ChangeShapes Go.WideShapes Go.ChangeAt Go.RowKit
set_option linter.unusedVariables false
set_option maxRecDepth 4000
set_option linter.unusedSimpArgs false
end Go.Proofs.Ytmelkgmbiiobgaa

namespace Go.Proofs.Ytmelkgmbiiobgaa
open Go.ChangeShapes Go.WideShapes Go.ChangeAt Go.RowKit
set_option linter.unusedVariables false
set_option maxRecDepth 4000
set_option linter.unusedSimpArgs false
def putLe (x n : Nat) : List UInt8 := (List.range n).map fun i => UInt8.ofNat (x / 256 ^ i)
def putBe (x n : Nat) : List UInt8 := (putLe x n).reverse
theorem putLe_length (x n : Nat) : (putLe x n).length = n := by simp [putLe]
theorem putBe_length (x n : Nat) : (putBe x n).length = n := by simp [putBe, putLe]
/-- the first k bytes laid, zeros behind -/
def partLe (x n k : Nat) : List UInt8 := putLe x k ++ List.replicate (n - k) 0
theorem partLe_set (x n k : Nat) (h : k < n) : partLe x n (k + 1) = (partLe x n k).set k (UInt8.ofNat (x / 256 ^ k)) := by
  unfold partLe
  rw [List.set_append_right _ _ (by rw [putLe_length]; exact Nat.le_refl _), putLe_length, Nat.sub_self]
  obtain ⟨m, hm⟩ : ∃ m, n - k = m + 1 := ⟨n - k - 1, by omega⟩
  rw [hm, show n - (k + 1) = m from by omega, List.replicate_succ, List.set_cons_zero]
  simp [putLe, List.range_succ]
theorem shr_byte (x k : Nat) : (x : Int) / 2 ^ (8 * k) % 256 = ((UInt8.ofNat (x / 256 ^ k)).toNat : Int) := by
  rw [UInt8.toNat_ofNat']
  have e : ((x : Int) / 2 ^ (8 * k)) = ((x / 256 ^ k : Nat) : Int) := by
    rw [Int.natCast_ediv, Int.natCast_pow, Int.pow_mul]; rfl
  rw [e]; rfl
/-- the last k bytes laid, zeros ahead -/
def partBe (x n k : Nat) : List UInt8 := (partLe x n k).reverse
theorem partLe_length (x n k : Nat) (h : k ≤ n) : (partLe x n k).length = n := by simp [partLe, putLe_length]; omega
theorem reverse_set' {α : Type} (l : List α) (k : Nat) (b : α) (h : k < l.length) : (l.set k b).reverse = l.reverse.set (l.length - 1 - k) b := by
  apply List.ext_getElem
  · simp
  · intro i h1 h2
    simp only [List.length_reverse, List.length_set] at h1 h2
    simp only [List.getElem_reverse, List.getElem_set, List.length_set]
    by_cases e : k = l.length - 1 - i
    · rw [if_pos e, if_pos (by omega)]
    · rw [if_neg e, if_neg (by omega)]
theorem partBe_set (x n k : Nat) (h : k < n) : partBe x n (k + 1) = (partBe x n k).set (n - 1 - k) (UInt8.ofNat (x / 256 ^ k)) := by
  unfold partBe
  rw [partLe_set x n k h, reverse_set' _ _ _ (by rw [partLe_length x n k (by omega)]; exact h), partLe_length x n k (by omega)]
theorem partBe_zero (x n : Nat) : partBe x n 0 = List.replicate n 0 := by simp [partBe, partLe, putLe]
theorem partBe_all (x n : Nat) : partBe x n n = putBe x n := by simp [partBe, partLe, putBe]
theorem made_zero (n : Nat) : (madeCells #[Value.int .u8 0] n).toList = bv (List.replicate n 0) := by
  rw [bv_replicate]; exact toList_madeCells_one _ _
/-- one byte stored into a row of our own -/
theorem put_step {w w1 : World} {B g n k : Nat} {l : List UInt8} {b : UInt8} (hb : Below B w w1) (hBg : B ≤ g)
    (h : w1.ownsRow B 5 1 (.slice (some ⟨g, 0, none⟩) n n) n (bv l)) :
    (w1.setCell ⟨g, k, none⟩ (.int .u8 (b.toNat : Int))).ownsRow B 5 1 (.slice (some ⟨g, 0, none⟩) n n) n (bv (l.set k b)) ∧ Below B w (w1.setCell ⟨g, k, none⟩ (.int .u8 (b.toNat : Int))) := by
  refine ⟨?_, hb.setCell hBg _⟩
  rw [bv_set]
  exact (h.stored k _).1
theorem put_cell {w1 : World} {B g n k : Nat} {l : List UInt8} (hk : k < n)
    (h : w1.ownsRow B 5 1 (.slice (some ⟨g, 0, none⟩) n n) n (bv l)) : ∃ u : Value, w1.cell? ⟨g, k, none⟩ = some u := by
  rw [h.cellAt k (by omega)]
  have : k < (bv l).length := by rw [h.1]; omega
  exact ⟨(bv l)[k], by simp [this]⟩
theorem putBig_no (x n : Int) (w : World) (hn : isW n = false) :
    Calls Try.prog 59 #[.int .u64 x, .int .i64 n] w fun e w' => e = .returned (.slice none 0 0) ∧ w' = w := by
  go_enter Try.func59, Try.ntmps59
  go_wp2_with (go_at_call 83; refine (isWidth_any _ _).mono ?_; rintro e w' ⟨rfl, rfl⟩)
  go_ret
  exact ⟨rfl, rfl⟩
set_option maxHeartbeats 400000 in
theorem putBig_yes (x n : Nat) (w : World) (B : Nat) (hB : B ≤ w.heap.size) (hn1 : 1 ≤ n) (hn8 : n ≤ 8) (hx : x ≤ 18446744073709551615) :
    Calls Try.prog 59 #[.int .u64 x, .int .i64 n] w fun e w' => ∃ v, e = .returned v ∧ Below B w w' ∧ w'.ownsRow B 5 1 v n (bv (putBe x n)) := by
  have hw : isW n = true := by simp [isW]; omega
  obtain ⟨i0, hi, hz0, hz1, hz2⟩ := info_parts Try.info_u8
  have HZ := hide hz2
  clear hz2
  go_enter Try.func59, Try.ntmps59
  go_wp2_with (first
    | (go_at_call 83; refine (isWidth_any _ _).mono ?_; rintro e w' ⟨rfl, rfl⟩)
    | (at_make; refine wpList_make_full _ rfl _ _ 39 rfl B 5 i0 (.int .u8 0) 1 Try.underlying39 hi hz0 hz1 .i64 .i64 _ _ n rfl rfl rfl rfl ?c1 ?c2 ?c3 ?_))
  case c1 => rw [HZ.out]; omega
  case c2 => unfold maxLen; omega
  case c3 => exact hB
  rintro w1 hown hgrow
  have hb1 : Below B w' w1 := (Below.refl _ _).grown hgrow hB (fun k e => by cases e)
  rw [made_zero] at hown
  clear hgrow
  go_wp2
  go_loopw [13] (fun i wr => ∃ k : Nat, k ≤ n ∧ i = .int .i64 k ∧ wr.ownsRow B 5 1 (.slice (some ⟨w'.heap.size, 0, none⟩) n n) n (bv (partBe x n k)) ∧ Below B w' wr) (fun i _ => n - (intOf i).toNat)
  case atStart => exact ⟨0, Nat.zero_le _, rfl, by rw [partBe_zero]; exact hown, hb1⟩
  case round =>
    obtain ⟨k, hk, rfl, hownk, hbk⟩ := hrel
    by_cases hlt : k < n
    · obtain ⟨u, hcell⟩ := put_cell (k := (n - 1 - k)) (by omega) hownk
      have hfz := hownk.frozenAt (n - 1 - k)
      have hs := hide (put_step (k := (n - 1 - k)) (b := UInt8.ofNat (x / 256 ^ k)) hbk hB hownk)
      clear hownk hbk hown hb1
      go_wp2
      go_roundw
      case rel =>
        refine ⟨k + 1, by omega, by go_num, ?_⟩
        rw [partBe_set x n k hlt]
        simp only [shr_byte]
        exact hs.out
      case measure => simp [intOf] <;> omega
    · have hkn : Hid (k = n) := by unfold Hid; omega
      go_wp2
      go_ret
      refine ⟨_, rfl, hbk, ?_⟩
      have := hownk
      rw [hkn.out, partBe_all] at this
      exact this
end Go.Proofs.Ytmelkgmbiiobgaa

namespace Go.Proofs.Ytmelkgmbiiobgaa
open Go.ChangeShapes Go.WideShapes Go.ChangeAt Go.RowKit
set_option linter.unusedVariables false
set_option maxRecDepth 4000
set_option linter.unusedSimpArgs false
def isT (n : Int) : Bool := decide (0 ≤ n ∧ n ≤ 1024)
def textOf (l : List UInt8) (n : Nat) : List UInt8 := l.take n ++ List.replicate (n - l.length) 32
theorem textOf_length (l : List UInt8) (n : Nat) : (textOf l n).length = n := by simp [textOf]; omega
theorem text_no (s : ByteArray) (n : Int) (w : World) (hn : isT n = false) :
    Calls Try.prog 78 #[.string s, .int .i64 n] w fun e w' => e = .returned (.slice none 0 0) ∧ w' = w := by
  simp [isT] at hn
  by_cases h1 : n < 0
  all_goals
    go_enter Try.func78, Try.ntmps78
    go_wp2
    go_ret
    exact ⟨rfl, rfl⟩
/-- the first k bytes laid -/
def partT (l : List UInt8) (n k : Nat) : List UInt8 := (textOf l n).take k ++ List.replicate (n - k) 0
theorem partT_set (l : List UInt8) (n k : Nat) (h : k < n) (hl : l.length ≤ k) : partT l n (k + 1) = (partT l n k).set k 32 := by
  unfold partT
  have h1 : ((textOf l n).take k).length = k := by rw [List.length_take, textOf_length]; omega
  rw [List.set_append_right _ _ (by omega), h1, Nat.sub_self]
  obtain ⟨m, hm⟩ : ∃ m, n - k = m + 1 := ⟨n - k - 1, by omega⟩
  rw [hm, show n - (k + 1) = m from by omega, List.replicate_succ, List.set_cons_zero]
  rw [List.take_succ_eq_append_getElem (by rw [textOf_length]; exact h)]
  simp [textOf, List.getElem_append, show min n l.length = l.length from by omega, show ¬ k < l.length from by omega]
theorem partT_start (l : List UInt8) (n : Nat) : l.take (Nat.min l.length n) ++ (List.replicate n (0 : UInt8)).drop (Nat.min l.length n) = partT l n (Nat.min l.length n) := by
  unfold partT textOf
  have h1 : Nat.min l.length n ≤ l.length := Nat.min_le_left _ _
  have h2 : Nat.min l.length n ≤ n := Nat.min_le_right _ _
  rw [List.take_append_of_le_length (by rw [List.length_take]; omega), List.take_take, List.drop_replicate]
  congr 2
  omega
theorem partT_all (l : List UInt8) (n : Nat) : partT l n n = textOf l n := by
  unfold partT
  rw [List.take_of_length_le (by rw [textOf_length]; exact Nat.le_refl _)]; simp
set_option maxHeartbeats 400000 in
theorem text_yes (s : ByteArray) (n : Nat) (w : World) (B : Nat) (hB : B ≤ w.heap.size) (hn : n ≤ 1024) (hs : s.size ≤ maxLen) :
    Calls Try.prog 78 #[.string s, .int .i64 n] w fun e w' => ∃ v, e = .returned v ∧ Below B w w' ∧ w'.ownsRow B 5 1 v n (bv (textOf s.data.toList n)) := by
  obtain ⟨i0, hi, hz0, hz1, hz2⟩ := info_parts Try.info_u8
  have HZ := hide hz2
  clear hz2
  have hsl : Hid (s.data.toList.length = s.size) := by unfold Hid; rw [Array.length_toList]; rfl
  unfold maxLen at hs
  have hd0 : decide ((n : Int) < 0) = false := by simp
  have hd1 : decide (1024 < (n : Int)) = false := by simp; omega
  go_enter Try.func78, Try.ntmps78
  go_wp2_with (at_make; refine wpList_make_full _ rfl _ _ 39 rfl B 5 i0 (.int .u8 0) 1 Try.underlying39 hi hz0 hz1 .i64 .i64 _ _ n rfl rfl rfl rfl ?c1 ?c2 ?c3 ?_)
  case c1 => rw [HZ.out]; omega
  case c2 => unfold maxLen; omega
  case c3 => exact hB
  rintro w1 hown hgrow
  have hb1 : Below B w w1 := (Below.refl _ _).grown hgrow hB (fun k e => by cases e)
  rw [made_zero] at hown
  clear hgrow
  obtain ⟨w2, hcopy, hown2, hb2⟩ := run_copy_str_own 3 B w.heap.size n s _ hB hown w hb1
  rw [← hsl.out, partT_start] at hown2
  have hm : Nat.min s.size n ≤ n := Nat.min_le_right _ _
  have hms : Hid (Nat.min s.size n < n → s.data.toList.length ≤ Nat.min s.size n) := by
    unfold Hid; intro h; rw [hsl.out]
    rcases Nat.le_total s.size n with hh | hh
    · rw [show Nat.min s.size n = s.size from Nat.min_eq_left hh]; exact Nat.le_refl _
    · rw [show Nat.min s.size n = n from Nat.min_eq_right hh] at h; omega
  rw [hsl.out] at hown2
  generalize Nat.min s.size n = m at hcopy hown2 hm hms
  have Hown2 := hide hown2
  have Hb2 := hide hb2
  clear hown hb1 hown2 hb2
  go_wp2
  go_loopw [6] (fun i wr => ∃ k : Nat, k ≤ n ∧ i = .int .i64 k ∧ Hid (k < n → s.data.toList.length ≤ k) ∧ wr.ownsRow B 5 1 (.slice (some ⟨w.heap.size, 0, none⟩) n n) n (bv (partT s.data.toList n k)) ∧ Below B w wr) (fun i _ => n - (intOf i).toNat)
  case atStart =>
    exact ⟨m, hm, rfl, hms, Hown2.out, Hb2.out⟩
  case round =>
    obtain ⟨k, hk, rfl, hsk, hownk, hbk⟩ := hrel
    by_cases hlt : k < n
    · obtain ⟨u, hcell⟩ := put_cell (k := k) (by omega) hownk
      have hfz := hownk.frozenAt k
      have hs2 := hide (put_step (k := k) (b := 32) hbk hB hownk)
      clear hownk hbk Hown2 Hb2 hcopy
      go_wp2
      go_roundw
      case rel =>
        refine ⟨k + 1, by omega, by go_num, by unfold Hid; intro h; have := hsk.out hlt; omega, ?_⟩
        rw [partT_set _ n k hlt (hsk.out hlt)]
        exact hs2.out
      case measure => simp [intOf] <;> omega
    · have hkn : Hid (k = n) := by unfold Hid; omega
      go_wp2
      go_ret
      refine ⟨_, rfl, hbk, ?_⟩
      have := hownk
      rw [hkn.out, partT_all] at this
      exact this
end Go.Proofs.Ytmelkgmbiiobgaa

namespace Go.Proofs.Ytmelkgmbiiobgaa
open Go.ChangeShapes Go.WideShapes Go.ChangeAt Go.RowKit
set_option linter.unusedVariables false
set_option maxRecDepth 4000
set_option linter.unusedSimpArgs false
/-! The calls' answers, for all arguments. -/
def putBeI (x : Nat) (n : Int) : List UInt8 := if isW n then putBe x n.toNat else []
def textI (l : List UInt8) (n : Int) : List UInt8 := if isT n then textOf l n.toNat else []
theorem puts_c {k : Nat} {val : Nat → Nat → List UInt8} (hlen : ∀ x n, (val x n).length = n) (hno : ∀ (x n : Int) (w : World) (hn : isW n = false), Calls Try.prog k #[.int .u64 x, .int .i64 n] w fun e w' => e = .returned (.slice none 0 0) ∧ w' = w)
    (hyes : ∀ (x n : Nat) (w : World) (B : Nat) (hB : B ≤ w.heap.size) (hn1 : 1 ≤ n) (hn8 : n ≤ 8) (hx : x ≤ 18446744073709551615), Calls Try.prog k #[.int .u64 x, .int .i64 n] w fun e w' => ∃ v, e = .returned v ∧ Below B w w' ∧ w'.ownsRow B 5 1 v n (bv (val x n)))
    (x : Nat) (n : Int) (w : World) (B : Nat) (hB : B ≤ w.heap.size) (hx : x ≤ 18446744073709551615) :
    Calls Try.prog k #[.int .u64 x, .int .i64 n] w fun e w' => ∃ v, e = .returned v ∧ Below B w w' ∧ w'.ownsRow B 5 1 v (if isW n then val x n.toNat else []).length (bv (if isW n then val x n.toNat else [])) := by
  by_cases h : isW n = true
  · have h' := h
    simp [isW] at h'
    obtain ⟨n', rfl⟩ := Int.eq_ofNat_of_zero_le (show 0 ≤ n by omega)
    refine (hyes x n' w B hB (by omega) (by omega) hx).mono fun e w' he => ?_
    rw [h]
    simpa [hlen] using he
  · have h' : isW n = false := by simpa using h
    refine (hno x n w h').mono fun e w' he => ?_
    obtain ⟨rfl, rfl⟩ := he
    rw [h']
    exact ⟨_, rfl, Below.refl _ _, World.ownsRow_nil _ _ _ _⟩
theorem putBig_c (x : Nat) (n : Int) (w : World) (B : Nat) (hB : B ≤ w.heap.size) (hx : x ≤ 18446744073709551615) :
    Calls Try.prog 59 #[.int .u64 x, .int .i64 n] w fun e w' => ∃ v, e = .returned v ∧ Below B w w' ∧ w'.ownsRow B 5 1 v (putBeI x n).length (bv (putBeI x n)) := puts_c putBe_length putBig_no putBig_yes x n w B hB hx
theorem texts_c {k : Nat} (hno : ∀ (s : ByteArray) (n : Int) (w : World) (hn : isT n = false), Calls Try.prog k #[.string s, .int .i64 n] w fun e w' => e = .returned (.slice none 0 0) ∧ w' = w)
    (hyes : ∀ (s : ByteArray) (n : Nat) (w : World) (B : Nat) (hB : B ≤ w.heap.size) (hn : n ≤ 1024) (hs : s.size ≤ maxLen), Calls Try.prog k #[.string s, .int .i64 n] w fun e w' => ∃ v, e = .returned v ∧ Below B w w' ∧ w'.ownsRow B 5 1 v n (bv (textOf s.data.toList n)))
    (s : ByteArray) (n : Int) (w : World) (B : Nat) (hB : B ≤ w.heap.size) (hs : s.size ≤ maxLen) :
    Calls Try.prog k #[.string s, .int .i64 n] w fun e w' => ∃ v, e = .returned v ∧ Below B w w' ∧ w'.ownsRow B 5 1 v (textI s.data.toList n).length (bv (textI s.data.toList n)) := by
  unfold textI
  by_cases h : isT n = true
  · have h' := h
    simp [isT] at h'
    obtain ⟨n', rfl⟩ := Int.eq_ofNat_of_zero_le (show 0 ≤ n by omega)
    refine (hyes s n' w B hB (by omega) hs).mono fun e w' he => ?_
    rw [h]
    simpa [textOf_length] using he
  · have h' : isT n = false := by simpa using h
    refine (hno s n w h').mono fun e w' he => ?_
    obtain ⟨rfl, rfl⟩ := he
    rw [h']
    exact ⟨_, rfl, Below.refl _ _, World.ownsRow_nil _ _ _ _⟩
theorem text_c (s : ByteArray) (n : Int) (w : World) (B : Nat) (hB : B ≤ w.heap.size) (hs : s.size ≤ maxLen) :
    Calls Try.prog 78 #[.string s, .int .i64 n] w fun e w' => ∃ v, e = .returned v ∧ Below B w w' ∧ w'.ownsRow B 5 1 v (textI s.data.toList n).length (bv (textI s.data.toList n)) := texts_c text_no text_yes s n w B hB hs
end Go.Proofs.Ytmelkgmbiiobgaa

namespace Go.Proofs.Ytmelkgmbiiobgaa
open Go.ChangeShapes Go.WideShapes Go.ChangeAt Go.RowKit
set_option linter.unusedVariables false
set_option maxRecDepth 4000
set_option linter.unusedSimpArgs false
end Go.Proofs.Ytmelkgmbiiobgaa

namespace Go.Proofs.Ytmelkgmbiiobgaa
open Go.ChangeShapes Go.WideShapes Go.ChangeAt Go.RowKit
set_option linter.unusedVariables false
set_option maxRecDepth 4000
set_option linter.unusedSimpArgs false
end Go.Proofs.Ytmelkgmbiiobgaa

namespace Go.Proofs.Ytmelkgmbiiobgaa
open Go.ChangeShapes Go.WideShapes Go.ChangeAt Go.RowKit
set_option linter.unusedVariables false
set_option maxRecDepth 4000
set_option linter.unusedSimpArgs false
/-! The document's inquiry: Serial, first, Standard, Cut. -/
def serL (lun : Int) : List UInt8 := [82, 84, 48, 48, 48, 48, 48, UInt8.ofNat (48 + (lun % 8).toNat)]
def firstB (there : Bool) : UInt8 := if there then 0 else 127
def stdL (there : Bool) : List UInt8 := [firstB there, 128, 6, 2, 31, 0, 0, 2, 82, 69, 84, 73, 67, 85, 76, 69, 71, 65, 68, 71, 69, 84, 32, 68, 73, 83, 75, 32, 32, 32, 32, 32, 48, 48, 48, 49]
end Go.Proofs.Ytmelkgmbiiobgaa

namespace Go.Proofs.Ytmelkgmbiiobgaa
open Go.ChangeShapes Go.WideShapes Go.ChangeAt Go.RowKit
set_option linter.unusedVariables false
set_option maxRecDepth 4000
set_option linter.unusedSimpArgs false
/-! Bytes of a constant text, and of any text. -/
theorem owns_box {w : World} {g n B : Nat} {e : TypeId} {l : List UInt8} (h : Box w g e (bv l)) (hl : l.length = n) (hm : n ≤ 1000000) (hB : B ≤ g) : w.ownsRow B e 1 (.slice (some ⟨g, 0, none⟩) n n) n (bv l) :=
  ⟨by rw [bv_length]; omega, .inr ⟨g, n, (bv l).toArray, rfl, hB, h, Nat.le_refl _, by unfold maxLen; omega, by simp [bv_length]; omega, List.take_of_length_le (by simp [bv_length]; omega)⟩⟩
theorem later_freeze {w0 w : World} (h : Later w0 w) {a : Addr} (hg : w0.heap.size ≤ a.block) (n : Nat) : Later w0 (w.freeze a n) := by
  unfold World.freeze
  split
  · exact h
  · refine ⟨h.os, h.tape, h.output, by simpa using h.size, fun k hk => ?_⟩
    simp only [Array.getElem?_modify]
    rw [if_neg (by omega)]
    exact h.block k hk
theorem later_bytes (w : World) (e : TypeId) (s : ByteArray) : Later w (Lib.bytesWorld w e s) := by
  unfold Lib.bytesWorld
  exact later_freeze (((Later.refl w).drew).alloc _) (Nat.le_refl _) _
theorem bs_bytes (w : World) (l : List UInt8) (hl : l.length ≤ 1000000) : Bs (Lib.bytesWorld w 5 (strOf l)) (.slice (some ⟨w.heap.size, 0, none⟩) l.length (grownCap w l.length 0 5)) l := by
  refine ⟨by unfold maxLen; omega, some ⟨w.heap.size, 0, none⟩, _, rfl, ?_, .inr ⟨w.heap.size, 0, rfl, fun j hj => ?_⟩⟩
  · exact grownCap_ge _ _ _ _
  · rw [Nat.zero_add, Lib.bytesWorld_cell w 5 (strOf l) j (by simpa [strOf, ByteArray.size] using hj)]
    simp [strOf, List.getD, hj]
end Go.Proofs.Ytmelkgmbiiobgaa

namespace Go.Proofs.Ytmelkgmbiiobgaa
open Go.ChangeShapes Go.WideShapes Go.ChangeAt Go.RowKit
set_option linter.unusedVariables false
set_option maxRecDepth 4000
set_option linter.unusedSimpArgs false
/-! Cut: the first bytes. -/
def cutL (l : List UInt8) (n : Int) : List UInt8 := if n < 0 then [] else l.take n.toNat
theorem Bs.cut7 {w : World} {a : Option Addr} {n cap : Nat} {l : List UInt8} (h : Bs w (.slice a n cap) l) (k : Nat) (hk : k ≤ n) : Bs w (.slice a k cap) (l.take k) := by
  obtain ⟨h1, ad, cap', e, h2, h3⟩ := h
  simp at e
  obtain ⟨rfl, rfl, rfl⟩ := e
  have hl : (l.take k).length = k := by simp; omega
  refine ⟨by rw [hl]; omega, a, cap, by rw [hl], by rw [hl]; omega, ?_⟩
  rcases h3 with h3 | ⟨b', off', e, h3⟩
  · exact .inl (by rw [h3]; simp)
  · refine .inr ⟨b', off', e, fun j hj => ?_⟩
    rw [hl] at hj
    rw [h3 j (by omega), List.getElem_take]
end Go.Proofs.Ytmelkgmbiiobgaa

namespace Go.Proofs.Ytmelkgmbiiobgaa
open Go.ChangeShapes Go.WideShapes Go.ChangeAt Go.RowKit
set_option linter.unusedVariables false
set_option maxRecDepth 4000
set_option linter.unusedSimpArgs false
/-! 'append(a, make([]byte, 52)...)', a our own. -/
theorem zerosN (n : Nat) : (Builtin.zeroCells (Value.int .u8 0).cells n).toList = bv (List.replicate n 0) := by
  rw [bv_replicate]
  simp only [Builtin.zeroCells, Value.cells]
  refine List.ext_getElem (by simp) fun i h1 h2 => ?_
  simp [Nat.mod_one]
def z52 : List UInt8 := List.replicate 52 0
theorem z52_len : z52.length = 52 := by simp [z52]
theorem zeros52 : (Builtin.zeroCells (Value.int .u8 0).cells 52).toList = bv z52 := zerosN 52
theorem zeros52' : Builtin.zeroCells (Value.int .u8 0).cells 52 = (bv z52).toArray := by rw [← zeros52]
set_option maxHeartbeats 1000000 in
theorem run_append_zeros {w : World} {B g n cap : Nat} {l : List UInt8} (ty : TypeId) (hown : w.ownsRow B 5 1 (.slice (some ⟨g, 0, none⟩) n cap) n (bv l)) (hn : n ≤ 1000000) (hbase : B ≤ w.heap.size) :
    ∃ v' w', (Builtin.append_ #[39, 3] ty #[.slice (some ⟨g, 0, none⟩) n cap, .int .i64 52]).run Try.prog w = .ok v' w' ∧ w'.ownsRow B 5 1 v' (n + 52) (bv (l ++ z52)) ∧ w.grownBy w' (some g) := by
  obtain ⟨i0, hi, hz0, hz1, hz2⟩ := info_parts Try.info_u8
  have h52 : IntKind.i64.wrap 52 = 52 := by decide
  have hai : ∀ w : World, (asInt (.int .i64 52)).run Try.prog w = .ok 52 w := fun w => rfl
  obtain ⟨hlen, h | ⟨g', cap', cur, e, hbg, hg, hnc, hcm, hcs, htake⟩⟩ := hown
  · obtain ⟨h, _⟩ := h; cases h
  simp at e
  obtain ⟨rfl, rfl⟩ := e
  rw [Nat.mul_one] at hlen hcs htake
  have hL : (bv (l ++ z52)).length = n + 52 := by rw [bv_append, List.length_append, hlen, bv_length, z52_len]
  by_cases hroom : n + 52 ≤ cap
  · have hB : Box w g 5 cur.toList := by unfold Box; rw [hg]
    have hst := run_storeCells_cells (P := Try.prog) g n (bv (z52)) 0 w (fun j hj => by rw [hB.cell]; rw [bv_length, z52_len] at hj; simp; omega) (fun j hj => hB.frozen _) (bv_one _)
    simp only [Nat.add_zero] at hst
    have hB2 := hB.setCells (bv (z52)) n (by rw [bv_length, z52_len]; simp; omega)
    refine ⟨.slice (some ⟨g, 0, none⟩) (n + 52) cap, w.setCells g n (bv (z52)), ?_, ?_, ?_⟩
    · simp [Builtin.append_, run_underlying Try.underlying39, run_underlying Try.underlying3, sizeOf, typeInfo, hi, hz0, hz1, hz2, zeroValue, hroom, Addr.add_lit, zeros52, hst, hai, h52]
    · refine ⟨by rw [hL, Nat.mul_one], .inr ⟨g, cap, _, rfl, hbg, hB2, hroom, hcm, ?_, ?_⟩⟩
      · simp [bv_length, z52_len]; omega
      · rw [Nat.mul_one, htake, ← bv_append, ← hL]
        exact List.take_left
    · have hlt := hB.lt
      exact ⟨(below_setCells (Below.refl g w) (Nat.le_refl _) _ _).os, (below_setCells (Below.refl g w) (Nat.le_refl _) _ _).tape, (below_setCells (Below.refl g w) (Nat.le_refl _) _ _).output, (below_setCells (Below.refl g w) (Nat.le_refl _) _ _).size, fun k hk hne => heap_setCells_other w g k (fun e => hne (by rw [e])) _ _⟩
  · have hn63 : ¬ (9223372036854775807 < (n : Int) + 52) := by omega
    have hfit : ¬ (281474976710656 < Builtin.nextslicecap (n + 52) cap) := by
      have := growslice_fits (need := n + 52) (old := cap) (bytes := 1) (by omega) (by omega)
      omega
    have holds : (Builtin.firstCells 1 n (.slice (some ⟨g, 0, none⟩) n cap)).run Try.prog w.drew = .ok (bv l).toArray w.drew := by
      refine run_firstCells_some w.drew 1 n ⟨g, 0, none⟩ n cap (bv l) (by rw [hlen]; omega) ?_
      intro j u hu
      have hj : j < n := by rw [← hlen]; exact (List.getElem?_eq_some_iff.1 hu).1
      have hB : Box w.drew g 5 cur.toList := by unfold Box; exact hg
      rw [show (⟨g, 0, none⟩ : Addr).add j = ⟨g, j, none⟩ from by unfold Addr.add; split <;> simp_all, hB.cell j, ← hu, ← htake, List.getElem?_take_of_lt hj]
    have hge := grownCap_ge w (n + 52) cap 5
    have hcm2 : grownCap w (n + 52) cap 5 ≤ maxLen := grownCap_le_maxLen w (n + 52) cap 5 (by unfold maxLen; omega)
    refine ⟨.slice (some ⟨w.heap.size, 0, none⟩) (n + 52) (grownCap w (n + 52) cap 5), w.drew.alloc (.cells ((bv l).toArray ++ ((bv z52).toArray ++ Builtin.zeroCells (Value.int .u8 0).cells (grownCap w (n + 52) cap 5 - (n + 52)))) 5), ?_, ?_, ?_⟩
    · simp [Builtin.append_, run_underlying Try.underlying39, run_underlying Try.underlying3, sizeOf, typeInfo, hi, hz0, hz1, hz2, zeroValue, hroom, Addr.add_lit, zeros52', hai, h52, hn63, hfit, Question.forced, holds, newRow, grownCap]
      intro h
      exfalso
      omega
    · refine ⟨by rw [hL, Nat.mul_one], .inr ⟨w.heap.size, _, _, rfl, hbase, heap_alloc_new w.drew _, hge, hcm2, ?_, ?_⟩⟩
      · simp only [Array.size_append, List.size_toArray, size_zeroCells, hlen, bv_length, z52_len]
        simp [Value.cells]
        omega
      · simp only [Array.toList_append, List.toList_toArray]
        rw [Nat.mul_one, ← List.append_assoc, ← bv_append, ← hL]
        exact List.take_left
    · exact ⟨rfl, rfl, rfl, by simp, fun k hk _ => heap_alloc_old w.drew _ hk⟩
theorem wpList_append_zeros {w : World} {ops : Array Oper} {rest : List Oper} {o : Oper} {a : Act} {Q : Exit → Act → World → Prop} (hgd : o.guard = none) (s : Operand) (ho : o.op = .call { callee := .builtin .append, args := #[s, .const (.int .i64 52)], argTypes := #[39, 3] }) (B g n cap : Nat) (l : List UInt8) (hs : a.eval s = .slice (some ⟨g, 0, none⟩) n cap) (hown : w.ownsRow B 5 1 (.slice (some ⟨g, 0, none⟩) n cap) n (bv l)) (hn : n ≤ 1000000) (hbase : B ≤ w.heap.size) (w0 : World) (hb : Below B w0 w)
    (h : ∀ v' w', w'.ownsRow B 5 1 v' (n + 52) (bv (l ++ z52)) → Below B w0 w' → wpList Try.prog ops Q rest (a.put o.dst v') w') : wpList Try.prog ops Q (o :: rest) a w := by
  refine wpList_plain hgd fun K hK => ?_
  obtain ⟨v', w', hrun, h1, h2⟩ := run_append_zeros o.type hown hn hbase
  have hbg : B ≤ g := (hown.lt g rfl).1
  unfold Go.Oper.wp execOp
  have hc : a.eval (.const (.int .i64 52)) = .int .i64 52 := rfl
  simp only [ho, resolve, invoke, builtin, Sem.run_bind, Sem.run_pure, Result.andThen_ok, List.map_toArray, List.map_cons, List.map_nil, hs, hc, hrun]
  exact hK _ _ (h v' w' h1 (hb.grown h2 hbase fun k hk => by cases hk; exact hbg))
end Go.Proofs.Ytmelkgmbiiobgaa

namespace Go.Proofs.Ytmelkgmbiiobgaa
open Go.ChangeShapes Go.WideShapes Go.ChangeAt Go.RowKit
set_option linter.unusedVariables false
set_option maxRecDepth 4000
set_option linter.unusedSimpArgs false
/-! What the landed sense does, said; proved in P4. -/
def IConS (f : FuncId) (s : Sns) : Prop := ∀ w : World, Calls Try.prog f #[] w fun e w' => e = .returned (sval s) ∧ Later w w'
def IBytesS : Prop := ∀ (s : Sns) (w : World), OkS s → Calls Try.prog 52 #[sval s] w fun e w' => ∃ v, e = .returned v ∧ Later w w' ∧ Bs w' v (bytesL s)
def IGoodS : Prop := ∀ (s : Sns) (w : World), OkS s → Calls Try.prog 42 #[sval s] w fun e w' => e = .returned (.bool (s == (0, 0, 0))) ∧ Later w w'
end Go.Proofs.Ytmelkgmbiiobgaa

namespace Go.Proofs.Ytmelkgmbiiobgaa
open Go.ChangeShapes Go.WideShapes Go.ChangeAt Go.RowKit
set_option linter.unusedVariables false
set_option maxRecDepth 4000
set_option linter.unusedSimpArgs false
end Go.Proofs.Ytmelkgmbiiobgaa

namespace Go.Proofs.Ytmelkgmbiiobgaa
open Go.ChangeShapes Go.WideShapes Go.ChangeAt Go.RowKit
set_option linter.unusedVariables false
set_option maxRecDepth 4000
set_option linter.unusedSimpArgs false
/-! The landed sense: the sixteen senses, Good, Bytes. -/
theorem con_NotReady : IConS 50 (2, 58, 0) := by
  intro w
  have B0 := hide (Box.new w 30 #[.int .i64 2, .int .i64 58, .int .i64 0])
  have L0 := hide ((Later.refl w).alloc (.cells #[.int .i64 2, .int .i64 58, .int .i64 0] 30))
  go_enter Try.func50, Try.ntmps50
  go_wp2
  exact bodyPost_ret (results_cell1 rfl _ _ _ w.heap.size 0 rfl (sval (2, 58, 0)) (run_loadVar_mid _ _ _ _ [.int .i64 2, .int .i64 58, .int .i64 0] _ B0.out.range Try.underlying30 rfl (by kernel_rfl))) rfl ⟨rfl, L0.out⟩
theorem con_Protected : IConS 71 (7, 39, 0) := by
  intro w
  have B0 := hide (Box.new w 30 #[.int .i64 7, .int .i64 39, .int .i64 0])
  have L0 := hide ((Later.refl w).alloc (.cells #[.int .i64 7, .int .i64 39, .int .i64 0] 30))
  go_enter Try.func71, Try.ntmps71
  go_wp2
  exact bodyPost_ret (results_cell1 rfl _ _ _ w.heap.size 0 rfl (sval (7, 39, 0)) (run_loadVar_mid _ _ _ _ [.int .i64 7, .int .i64 39, .int .i64 0] _ B0.out.range Try.underlying30 rfl (by kernel_rfl))) rfl ⟨rfl, L0.out⟩
theorem con_Kept : IConS 89 (5, 83, 2) := by
  intro w
  have B0 := hide (Box.new w 30 #[.int .i64 5, .int .i64 83, .int .i64 2])
  have L0 := hide ((Later.refl w).alloc (.cells #[.int .i64 5, .int .i64 83, .int .i64 2] 30))
  go_enter Try.func89, Try.ntmps89
  go_wp2
  exact bodyPost_ret (results_cell1 rfl _ _ _ w.heap.size 0 rfl (sval (5, 83, 2)) (run_loadVar_mid _ _ _ _ [.int .i64 5, .int .i64 83, .int .i64 2] _ B0.out.range Try.underlying30 rfl (by kernel_rfl))) rfl ⟨rfl, L0.out⟩
theorem con_Range : IConS 74 (5, 33, 0) := by
  intro w
  have B0 := hide (Box.new w 30 #[.int .i64 5, .int .i64 33, .int .i64 0])
  have L0 := hide ((Later.refl w).alloc (.cells #[.int .i64 5, .int .i64 33, .int .i64 0] 30))
  go_enter Try.func74, Try.ntmps74
  go_wp2
  exact bodyPost_ret (results_cell1 rfl _ _ _ w.heap.size 0 rfl (sval (5, 33, 0)) (run_loadVar_mid _ _ _ _ [.int .i64 5, .int .i64 33, .int .i64 0] _ B0.out.range Try.underlying30 rfl (by kernel_rfl))) rfl ⟨rfl, L0.out⟩
theorem con_Field : IConS 53 (5, 36, 0) := by
  intro w
  have B0 := hide (Box.new w 30 #[.int .i64 5, .int .i64 36, .int .i64 0])
  have L0 := hide ((Later.refl w).alloc (.cells #[.int .i64 5, .int .i64 36, .int .i64 0] 30))
  go_enter Try.func53, Try.ntmps53
  go_wp2
  exact bodyPost_ret (results_cell1 rfl _ _ _ w.heap.size 0 rfl (sval (5, 36, 0)) (run_loadVar_mid _ _ _ _ [.int .i64 5, .int .i64 36, .int .i64 0] _ B0.out.range Try.underlying30 rfl (by kernel_rfl))) rfl ⟨rfl, L0.out⟩
theorem con_Unknown : IConS 35 (5, 32, 0) := by
  intro w
  have B0 := hide (Box.new w 30 #[.int .i64 5, .int .i64 32, .int .i64 0])
  have L0 := hide ((Later.refl w).alloc (.cells #[.int .i64 5, .int .i64 32, .int .i64 0] 30))
  go_enter Try.func35, Try.ntmps35
  go_wp2
  exact bodyPost_ret (results_cell1 rfl _ _ _ w.heap.size 0 rfl (sval (5, 32, 0)) (run_loadVar_mid _ _ _ _ [.int .i64 5, .int .i64 32, .int .i64 0] _ B0.out.range Try.underlying30 rfl (by kernel_rfl))) rfl ⟨rfl, L0.out⟩
theorem con_Saving : IConS 56 (5, 57, 0) := by
  intro w
  have B0 := hide (Box.new w 30 #[.int .i64 5, .int .i64 57, .int .i64 0])
  have L0 := hide ((Later.refl w).alloc (.cells #[.int .i64 5, .int .i64 57, .int .i64 0] 30))
  go_enter Try.func56, Try.ntmps56
  go_wp2
  exact bodyPost_ret (results_cell1 rfl _ _ _ w.heap.size 0 rfl (sval (5, 57, 0)) (run_loadVar_mid _ _ _ _ [.int .i64 5, .int .i64 57, .int .i64 0] _ B0.out.range Try.underlying30 rfl (by kernel_rfl))) rfl ⟨rfl, L0.out⟩
theorem con_PowerOn : IConS 101 (6, 41, 0) := by
  intro w
  have B0 := hide (Box.new w 30 #[.int .i64 6, .int .i64 41, .int .i64 0])
  have L0 := hide ((Later.refl w).alloc (.cells #[.int .i64 6, .int .i64 41, .int .i64 0] 30))
  go_enter Try.func101, Try.ntmps101
  go_wp2
  exact bodyPost_ret (results_cell1 rfl _ _ _ w.heap.size 0 rfl (sval (6, 41, 0)) (run_loadVar_mid _ _ _ _ [.int .i64 6, .int .i64 41, .int .i64 0] _ B0.out.range Try.underlying30 rfl (by kernel_rfl))) rfl ⟨rfl, L0.out⟩
theorem con_NewMedium : IConS 87 (6, 40, 0) := by
  intro w
  have B0 := hide (Box.new w 30 #[.int .i64 6, .int .i64 40, .int .i64 0])
  have L0 := hide ((Later.refl w).alloc (.cells #[.int .i64 6, .int .i64 40, .int .i64 0] 30))
  go_enter Try.func87, Try.ntmps87
  go_wp2
  exact bodyPost_ret (results_cell1 rfl _ _ _ w.heap.size 0 rfl (sval (6, 40, 0)) (run_loadVar_mid _ _ _ _ [.int .i64 6, .int .i64 40, .int .i64 0] _ B0.out.range Try.underlying30 rfl (by kernel_rfl))) rfl ⟨rfl, L0.out⟩
theorem sgood_c : IGoodS := by
  intro s w hs
  have BX := hide (Box.new w 30 #[.int .i64 s.1, .int .i64 s.2.1, .int .i64 s.2.2])
  have L0 := hide ((Later.refl w).alloc (.cells #[.int .i64 s.1, .int .i64 s.2.1, .int .i64 s.2.2] 30))
  go_enter Try.func42, Try.ntmps42
  go_wp2_with (refine wpList_eqS (by kernel_rfl) (.tmp 3) (.tmp 4) rfl s (0, 0, 0) rfl rfl ?_)
  go_ret
  exact ⟨rfl, L0.out⟩
theorem run_make18 (w : World) : (Instr.makeSlice 39 (.int .i64 18) (.int .i64 18)).run Try.prog w = .ok (.slice (some ⟨w.heap.size, 0, none⟩) 18 18) (w.alloc (.cells #[.int .u8 0, .int .u8 0, .int .u8 0, .int .u8 0, .int .u8 0, .int .u8 0, .int .u8 0, .int .u8 0, .int .u8 0, .int .u8 0, .int .u8 0, .int .u8 0, .int .u8 0, .int .u8 0, .int .u8 0, .int .u8 0, .int .u8 0, .int .u8 0] 5)) := by
  have := run_make_row' (P := Try.prog) 39 5 (.int .u8 0) 1 Try.underlying39 Try.info_u8 rfl .i64 .i64 18 (by decide) (by decide) w
  rw [show madeCells #[Value.int .u8 0] 18 = #[.int .u8 0, .int .u8 0, .int .u8 0, .int .u8 0, .int .u8 0, .int .u8 0, .int .u8 0, .int .u8 0, .int .u8 0, .int .u8 0, .int .u8 0, .int .u8 0, .int .u8 0, .int .u8 0, .int .u8 0, .int .u8 0, .int .u8 0, .int .u8 0] from by apply Array.toList_inj.1; rw [show (#[Value.int .u8 0] : Array Value) = Array.replicate 1 (.int .u8 0) from rfl, madeCells_rep _ 1 18 (by decide)]; rfl] at this
  exact this
set_option maxRecDepth 20000 in
set_option maxHeartbeats 1000000 in
theorem sbytes_c : IBytesS := by
  intro s w hs
  have BX := hide (Box.new w 30 #[.int .i64 s.1, .int .i64 s.2.1, .int .i64 s.2.2])
  have L0 := hide ((Later.refl w).alloc (.cells #[.int .i64 s.1, .int .i64 s.2.1, .int .i64 s.2.2] 30))
  have hmk := run_make18
  go_enter Try.func52, Try.ntmps52
  go_wp2
  go_ret
  refine ⟨_, rfl, ((Later.refl w).alloc _).alloc _, ?_⟩
  refine bs_of_box (Box.new' _ _ _ _ rfl _ (by simp)) ?_ (bytesL_length s) (by omega)
  simp [bv, bytesL, b8_nat]
end Go.Proofs.Ytmelkgmbiiobgaa

namespace Go.Proofs.Ytmelkgmbiiobgaa
open Go.ChangeShapes Go.WideShapes Go.ChangeAt Go.RowKit
set_option linter.unusedVariables false
set_option maxRecDepth 4000
set_option linter.unusedSimpArgs false
/-! Ops, and their classes. -/
def classI (op : Int) : Int := if op = 8 ∨ op = 40 ∨ op = 168 ∨ op = 136 then 1 else if op = 10 ∨ op = 42 ∨ op = 170 ∨ op = 138 then 2 else if op = 47 ∨ op = 175 ∨ op = 143 then 3 else if op = 53 ∨ op = 145 then 4 else 0
theorem class_cases (op : Int) : (op = 8 ∨ op = 40 ∨ op = 168 ∨ op = 136 ∨ op = 10 ∨ op = 42 ∨ op = 170 ∨ op = 138 ∨ op = 47 ∨ op = 175 ∨ op = 143 ∨ op = 53 ∨ op = 145) ∨ (op ≠ 8 ∧ op ≠ 40 ∧ op ≠ 168 ∧ op ≠ 136 ∧ op ≠ 10 ∧ op ≠ 42 ∧ op ≠ 170 ∧ op ≠ 138 ∧ op ≠ 47 ∧ op ≠ 175 ∧ op ≠ 143 ∧ op ≠ 53 ∧ op ≠ 145) := by omega
theorem class_other {op : Int} (h : op ≠ 8 ∧ op ≠ 40 ∧ op ≠ 168 ∧ op ≠ 136 ∧ op ≠ 10 ∧ op ≠ 42 ∧ op ≠ 170 ∧ op ≠ 138 ∧ op ≠ 47 ∧ op ≠ 175 ∧ op ≠ 143 ∧ op ≠ 53 ∧ op ≠ 145) : classI op = 0 := by
  unfold classI; simp [h]
set_option maxHeartbeats 1000000 in
theorem class_c (op : Int) (w : World) : Calls Try.prog 24 #[.int .i64 op] w fun e w' => e = .returned (.int .i64 (classI op)) ∧ w' = w := by
  rcases class_cases op with h | h
  · rcases h with rfl | rfl | rfl | rfl | rfl | rfl | rfl | rfl | rfl | rfl | rfl | rfl | rfl <;>
    · go_enter Try.func24, Try.ntmps24
      go_wp2
      go_ret
      exact ⟨rfl, rfl⟩
  · have hc := hide (class_other h)
    obtain ⟨h1, h2, h3, h4, h5, h6, h7, h8, h9, h10, h11, h12, h13⟩ := h
    go_enter Try.func24, Try.ntmps24
    go_wp2
    go_ret
    exact ⟨by rw [hc.out]; rfl, rfl⟩
set_option maxHeartbeats 1000000 in
theorem rclass_c (op : Int) (w : World) : Calls Try.prog 12 #[.int .i64 op] w fun e w' => e = .returned (.int .i64 (classI op)) ∧ w' = w := by
  rcases class_cases op with h | h
  · rcases h with rfl | rfl | rfl | rfl | rfl | rfl | rfl | rfl | rfl | rfl | rfl | rfl | rfl <;>
    · go_enter Try.func12, Try.ntmps12
      go_wp2
      go_ret
      exact ⟨rfl, rfl⟩
  · have hc := hide (class_other h)
    obtain ⟨h1, h2, h3, h4, h5, h6, h7, h8, h9, h10, h11, h12, h13⟩ := h
    go_enter Try.func12, Try.ntmps12
    go_wp2
    go_ret
    exact ⟨by rw [hc.out]; rfl, rfl⟩
/-! Where a number stands. -/
end Go.Proofs.Ytmelkgmbiiobgaa
