import Derived.Test.YtfkojecipbjdpaaNumC
namespace Go.Proofs.Ytfkojecipbjdpaa
open Go.ChangeShapes Go.WideShapes Go.ChangeAt Go.RowKit
set_option linter.unusedVariables false
set_option linter.unusedSimpArgs false

def isT (n : Int) : Bool := decide (0 ≤ n ∧ n ≤ 1024)
def textOf (l : List UInt8) (n : Nat) : List UInt8 := l.take n ++ List.replicate (n - l.length) 32
theorem textOf_length (l : List UInt8) (n : Nat) : (textOf l n).length = n := by simp [textOf]; omega

theorem text_no (s : ByteArray) (n : Int) (w : World) (hn : isT n = false) :
    Calls Try.prog 22 #[.string s, .int .i64 n] w fun e w' => e = .returned (.slice none 0 0) ∧ w' = w := by
  simp [isT] at hn
  by_cases h1 : n < 0
  all_goals
    go_enter Try.func22, Try.ntmps22
    go_wp2
    go_ret
    exact ⟨rfl, rfl⟩
theorem rtext_no (s : ByteArray) (n : Int) (w : World) (hn : isT n = false) :
    Calls Try.prog 23 #[.string s, .int .i64 n] w fun e w' => e = .returned (.slice none 0 0) ∧ w' = w := by
  simp [isT] at hn
  by_cases h1 : n < 0
  all_goals
    go_enter Try.func23, Try.ntmps23
    go_wp2
    go_ret
    exact ⟨rfl, rfl⟩

/-- the first k bytes laid -/
def partT (l : List UInt8) (n k : Nat) : List UInt8 := (textOf l n).take k ++ List.replicate (n - k) 0
theorem partT_set (l : List UInt8) (n k : Nat) (h : k < n) (hl : l.length ≤ k) : partT l n (k + 1) = (partT l n k).set k 32 := by
  unfold partT
  have h1 : ((textOf l n).take k).length = k := by rw [List.length_take, textOf_length]; omega
  rw [List.set_append_right _ _ (by omega), h1, Nat.sub_self]
  obtain ⟨m, hm⟩ : ∃ m, n - k = m + 1 := ⟨n - k - 1, by omega⟩
  rw [hm, show n - (k + 1) = m from by omega, List.replicate_succ, List.set_cons_zero]
  rw [List.take_succ_eq_append_getElem (by rw [textOf_length]; exact h)]
  simp [textOf, List.getElem_append, show min n l.length = l.length from by omega, show ¬ k < l.length from by omega]
theorem partT_start (l : List UInt8) (n : Nat) : l.take (Nat.min l.length n) ++ (List.replicate n (0 : UInt8)).drop (Nat.min l.length n) = partT l n (Nat.min l.length n) := by
  unfold partT textOf
  have h1 : Nat.min l.length n ≤ l.length := Nat.min_le_left _ _
  have h2 : Nat.min l.length n ≤ n := Nat.min_le_right _ _
  rw [List.take_append_of_le_length (by rw [List.length_take]; omega), List.take_take, List.drop_replicate]
  congr 2
  omega
theorem partT_all (l : List UInt8) (n : Nat) : partT l n n = textOf l n := by
  unfold partT
  rw [List.take_of_length_le (by rw [textOf_length]; exact Nat.le_refl _)]; simp

set_option maxHeartbeats 400000 in
theorem text_yes (s : ByteArray) (n : Nat) (w : World) (B : Nat) (hB : B ≤ w.heap.size) (hn : n ≤ 1024) (hs : s.size ≤ maxLen) :
    Calls Try.prog 22 #[.string s, .int .i64 n] w fun e w' => ∃ v, e = .returned v ∧ Below B w w' ∧ w'.ownsRow B 5 1 v n (bv (textOf s.data.toList n)) := by
  obtain ⟨i0, hi, hz0, hz1, hz2⟩ := info_parts Try.info_u8
  have HZ := hide hz2
  clear hz2
  have hsl : Hid (s.data.toList.length = s.size) := by unfold Hid; rw [Array.length_toList]; rfl
  unfold maxLen at hs
  have hd0 : decide ((n : Int) < 0) = false := by simp
  have hd1 : decide (1024 < (n : Int)) = false := by simp; omega
  go_enter Try.func22, Try.ntmps22
  go_wp2_with (at_make; refine wpList_make_full _ rfl _ _ 22 rfl B 5 i0 (.int .u8 0) 1 Try.underlying22 hi hz0 hz1 .i64 .i64 _ _ n rfl rfl rfl rfl ?c1 ?c2 ?c3 ?_)
  case c1 => rw [HZ.out]; omega
  case c2 => unfold maxLen; omega
  case c3 => exact hB
  rintro w1 hown hgrow
  have hb1 : Below B w w1 := (Below.refl _ _).grown hgrow hB (fun k e => by cases e)
  rw [made_zero] at hown
  clear hgrow
  obtain ⟨w2, hcopy, hown2, hb2⟩ := run_copy_str_own 3 B w.heap.size n s _ hB hown w hb1
  rw [← hsl.out, partT_start] at hown2
  have hm : Nat.min s.size n ≤ n := Nat.min_le_right _ _
  have hms : Hid (Nat.min s.size n < n → s.data.toList.length ≤ Nat.min s.size n) := by
    unfold Hid; intro h; rw [hsl.out]
    rcases Nat.le_total s.size n with hh | hh
    · rw [show Nat.min s.size n = s.size from Nat.min_eq_left hh]; exact Nat.le_refl _
    · rw [show Nat.min s.size n = n from Nat.min_eq_right hh] at h; omega
  rw [hsl.out] at hown2
  generalize Nat.min s.size n = m at hcopy hown2 hm hms
  have Hown2 := hide hown2
  have Hb2 := hide hb2
  clear hown hb1 hown2 hb2
  go_wp2
  go_loopw [6] (fun i wr => ∃ k : Nat, k ≤ n ∧ i = .int .i64 k ∧ Hid (k < n → s.data.toList.length ≤ k) ∧ wr.ownsRow B 5 1 (.slice (some ⟨w.heap.size, 0, none⟩) n n) n (bv (partT s.data.toList n k)) ∧ Below B w wr) (fun i _ => n - (intOf i).toNat)
  case atStart =>
    exact ⟨m, hm, rfl, hms, Hown2.out, Hb2.out⟩
  case round =>
    obtain ⟨k, hk, rfl, hsk, hownk, hbk⟩ := hrel
    by_cases hlt : k < n
    · obtain ⟨u, hcell⟩ := put_cell (k := k) (by omega) hownk
      have hfz := hownk.frozenAt k
      have hs2 := hide (put_step (k := k) (b := 32) hbk hB hownk)
      clear hownk hbk Hown2 Hb2 hcopy
      go_wp2
      go_roundw
      case rel =>
        refine ⟨k + 1, by omega, by go_num, by unfold Hid; intro h; have := hsk.out hlt; omega, ?_⟩
        rw [partT_set _ n k hlt (hsk.out hlt)]
        exact hs2.out
      case measure => simp [intOf] <;> omega
    · have hkn : Hid (k = n) := by unfold Hid; omega
      go_wp2
      go_ret
      refine ⟨_, rfl, hbk, ?_⟩
      have := hownk
      rw [hkn.out, partT_all] at this
      exact this

theorem textOf_snoc (l : List UInt8) (n k : Nat) (h : k < n) : (textOf l n).take (k + 1) = (textOf l n).take k ++ [if hk : k < l.length then l[k] else 32] := by
  rw [List.take_succ_eq_append_getElem (by rw [textOf_length]; exact h)]
  congr 2
  by_cases hk : k < l.length
  · simp [textOf, List.getElem_append, hk, show k < min n l.length from by omega]
  · simp [textOf, List.getElem_append, show min n l.length = l.length from by omega, hk]

set_option maxHeartbeats 400000 in
theorem rtext_yes (s : ByteArray) (n : Nat) (w : World) (B : Nat) (hB : B ≤ w.heap.size) (hn : n ≤ 1024) (hs : s.size ≤ maxLen) :
    Calls Try.prog 23 #[.string s, .int .i64 n] w fun e w' => ∃ v, e = .returned v ∧ Below B w w' ∧ w'.ownsRow B 5 1 v n (bv (textOf s.data.toList n)) := by
  obtain ⟨i0, hi, hz0, hz1, hz2⟩ := info_parts Try.info_u8
  have hsl : Hid (s.data.toList.length = s.size) := by unfold Hid; rw [Array.length_toList]; rfl
  unfold maxLen at hs
  have hd0 : decide ((n : Int) < 0) = false := by simp
  have hd1 : decide (1024 < (n : Int)) = false := by simp; omega
  go_enter Try.func23, Try.ntmps23
  go_wp2
  go_loopw [5, 6] (fun v i wr => ∃ k : Nat, k ≤ n ∧ i = .int .i64 k ∧ wr.ownsRow B 5 1 v k (bv ((textOf s.data.toList n).take k)) ∧ Below B w wr) (fun _ i _ => n - (intOf i).toNat)
  case atStart => exact ⟨0, Nat.zero_le _, rfl, World.ownsRow_nil _ _ _ _, Below.refl _ _⟩
  case round =>
    obtain ⟨k, hk, rfl, hown, hbk⟩ := hrel
    by_cases hlt : k < n
    · have hsz := hbk.size
      have hBr : B ≤ wr.heap.size := by omega
      have hb2 := fun o => hbk.alloc hBr o
      have hst := hide (textOf_snoc s.data.toList n k hlt)
      by_cases hin : k < s.size
      · go_wp2_with (at_builtin; refine wpList_append_bs rfl _ _ rfl B _ k _ rfl (hown.alloc _) _ [s[k]] rfl (Bs.one _ _ _) ?c1 ?c2 w (hb2 _) ?_)
        case c1 => simp; omega
        case c2 => simp; omega
        intro v' w' hown' hbel' _
        have R : Hid (w'.ownsRow B 5 1 v' (k + 1) (bv ((textOf s.data.toList n).take (k + 1))) ∧ Below B w w') := by
          refine ⟨?_, hbel'⟩
          rw [hst.out, dif_pos (by rw [hsl.out]; exact hin)]
          exact hown'
        clear hown' hbel' hown hbk hb2
        go_wp2
        go_roundw
        case rel => exact ⟨k + 1, by omega, by go_num, R.out⟩
        case measure => simp [intOf] <;> omega
      · go_wp2_with (at_builtin; refine wpList_append_bs rfl _ _ rfl B _ k _ rfl (hown.alloc _) _ [32] rfl (Bs.one _ 32 _) ?d1 ?d2 w (hb2 _) ?_)
        case d1 => simp; omega
        case d2 => simp; omega
        intro v' w' hown' hbel' _
        have R : Hid (w'.ownsRow B 5 1 v' (k + 1) (bv ((textOf s.data.toList n).take (k + 1))) ∧ Below B w w') := by
          refine ⟨?_, hbel'⟩
          rw [hst.out, dif_neg (by rw [hsl.out]; exact hin)]
          exact hown'
        clear hown' hbel' hown hbk hb2
        go_wp2
        go_roundw
        case rel => exact ⟨k + 1, by omega, by go_num, R.out⟩
        case measure => simp [intOf] <;> omega
    · have hkn : Hid (k = n) := by unfold Hid; omega
      go_wp2
      go_ret
      refine ⟨_, rfl, hbk, ?_⟩
      have := hown
      rw [hkn.out, List.take_of_length_le (by rw [textOf_length]; exact Nat.le_refl _)] at this
      exact this
end Go.Proofs.Ytfkojecipbjdpaa
