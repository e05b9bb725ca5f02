import Derived.Test.YtgleopnehdnpdaaB2
namespace Go.Proofs.Ytgleopnehdnpdaa
open Go.ChangeShapes Go.WideShapes Go.ChangeAt Go.RowKit
set_option linter.unusedVariables false
set_option linter.unusedSimpArgs false

set_option maxHeartbeats 400000 in
theorem filled_c (c : UInt8) (w : World) :
    Calls Try.prog 25 #[.int .u8 (c.toNat : Int)] w fun e w' => e = .returned (.agg (bv (List.replicate 64 c)).toArray) ∧ Later w w' := by
  go_enter Try.func25, Try.ntmps25
  go_wp2
  go_loopw [5] (fun i wr => ∃ k : Nat, k ≤ 64 ∧ i = .int .i64 k ∧ Hid (∃ zs, zs.length = 64 ∧ Box wr w.heap.size 41 zs) ∧ Hid (Box wr (w.heap.size + 1) 41 (bv (fillP c 64 k))) ∧ Hid (Later w wr)) (fun i _ => 64 - (intOf i).toNat)
  case atStart =>
    refine ⟨0, Nat.zero_le _, rfl, ?_, ?_, ?_⟩
    · exact ⟨_, rfl, (Box.new w _ _).alloc _⟩
    · rw [fillP_zero, zeros64]
      exact Box.new' (w.alloc _) _ _ _ rfl _ (by simp)
    · exact ((Later.refl w).alloc _).alloc _
  case round =>
    obtain ⟨k, hk, rfl, hz, hbox, hlat⟩ := hrel
    by_cases hlt : k < 64
    · have hst := hide (fillP_set c 64 k hlt)
      have hlen := fillP_length c 64 k (by omega)
      obtain ⟨u, hcell⟩ : ∃ u : Value, wr.cell? ⟨w.heap.size + 1, k, none⟩ = some u := by
        rw [hbox.out.cell k]
        exact ⟨_, List.getElem?_eq_getElem (by rw [bv_length, hlen]; exact hlt)⟩
      have hfz := hbox.out.frozen k
      clear hlen
      go_wp2
      go_roundw
      case rel =>
        refine ⟨k + 1, by omega, by go_num, ?_, ?_, ?_⟩
        · obtain ⟨zs, h1, h2⟩ := hz.out
          exact ⟨zs, h1, h2.other _ _ (by simp)⟩
        · unfold Hid
          rw [hst.out, bv_set]
          exact hbox.out.set k _
        · exact hlat.out.setCell (by simp) _
      case measure => simp [intOf]; omega
    · have hk64 : k = 64 := by omega
      rw [hk64, fillP_all] at hbox
      generalize hX : List.replicate 64 c = X at *
      have hsl : X.length = 64 := by rw [← hX]; simp
      have HX := hide hX
      clear hX
      obtain ⟨zs, hzl, hzb⟩ := hz.out
      clear hk64 hz
      have hth := hzb.there 0 64 (by omega)
      have hbl : (bv X).toArray.size = 64 := by simp [bv_length, hsl]
      have Hb := hzb.setCells (bv X) 0 (by rw [bv_length]; omega)
      have HB : Hid (Box (wr.setCells w.heap.size 0 (bv X)) w.heap.size 41 (bv X)) := by
        have e : zs.take 0 ++ bv X ++ zs.drop (0 + (bv X).length) = bv X := by
          rw [bv_length, hsl, List.drop_of_length_le (by omega)]; simp
        rwa [e] at Hb
      have HL := hide (hlat.out.setCells (Nat.le_refl _) (bv X) 0)
      have hbx := hide hbox.out.range
      have HTH := hide hth
      have HSZ := hide hbl
      have HSL := hide hsl
      clear Hb hzb hzl hsl hth hbl hbox hlat
      go_wp2_with (first
        | refine wpList_load_mid rfl 41 (.tmp 3) rfl (w.heap.size + 1) 0 rfl (bv X) _ hbx.out Try.underlying41 rfl (by rw [Try.info_block, bv_length, HSL.out]) ?_
        | refine wpList_store_mid rfl 41 (.tmp 2) (.tmp 12) rfl w.heap.size 0 (bv X).toArray rfl rfl (by rw [HSZ.out]; exact HTH.out) (by rw [HSZ.out]; exact Try.info_block) (all_oneCell_toArray (bv_one _)) ?_)
      refine bodyPost_ret (results_cell1 rfl _ _ _ w.heap.size 0 rfl (.agg (bv X).toArray) (run_loadVar_mid _ _ _ _ _ _ HB.out.range Try.underlying41 rfl (by rw [Try.info_block, bv_length, HSL.out]))) rfl ⟨by rw [HX.out], HL.out⟩

theorem bmake_no (n f : Int) (w : World) (hn : n < 0 ∨ 64 < n) :
    Calls Try.prog 20 #[.int .i64 n, .int .u8 f] w fun e w' => e = .returned (.tuple #[.slice none 0 0, .int .i64 1]) ∧ w' = w := by
  by_cases h1 : n < 0
  · have hd : decide (n < 0) = true := by simpa using h1
    go_enter Try.func20, Try.ntmps20
    go_wp2
    go_ret2
    exact ⟨rfl, rfl⟩
  · have hd : decide (n < 0) = false := by simpa using h1
    have hn' : 64 < n := by omega
    clear hn
    go_enter Try.func20, Try.ntmps20
    go_wp2
    go_ret2
    exact ⟨rfl, rfl⟩

theorem rep_take (c : UInt8) (n k : Nat) (h : k ≤ n) : (List.replicate n c).take k = List.replicate k c := by simp [List.take_replicate, Nat.min_eq_left h]
theorem rep_seg (c : UInt8) (n a k : Nat) (h : a + k ≤ n) : seg (List.replicate n c) a k = List.replicate k c := by
  simp [seg, List.drop_replicate, List.take_replicate, Nat.min_eq_left (show k ≤ n - a by omega)]

set_option maxHeartbeats 2000000 in
theorem bmake_yes (n : Nat) (c : UInt8) (w : World) (hn : n ≤ 64) :
    Calls Try.prog 20 #[.int .i64 n, .int .u8 (c.toNat : Int)] w fun e w' => ∃ v, e = .returned (.tuple #[v, .int .i64 0]) ∧ Later w w' ∧ w'.ownsRow w.heap.size 41 64 v n (bv (List.replicate (n * 64) c)) := by
  have hd0 : decide ((n : Int) < 0) = false := by simp
  have hd1 : decide (64 < (n : Int)) = false := by simp; omega
  go_enter Try.func20, Try.ntmps20
  go_wp2_with (at_make; refine wpList_make_of Try.elem_z64 rfl _ _ 22 rfl Try.underlying22 _ _ n rfl rfl rfl rfl ?c1 ?c2 _ (made64 n) ?_)
  case c1 => omega
  case c2 => unfold maxLen; omega
  rintro w1 hown hl1
  have hb1 := hide hl1
  have Hown := hide hown
  clear hown hl1
  go_wp2
  go_loopw [18] (fun i wr => ∃ k : Nat, k ≤ n ∧ i = .int .i64 k ∧ Hid (wr.ownsRow w.heap.size 41 64 (.slice (some ⟨w.heap.size, 0, none⟩) n n) n (bv (over (List.replicate (n * 64) 0) 0 ((List.replicate (n * 64) c).take (k * 64))))) ∧ Hid (Later w wr)) (fun i _ => n - (intOf i).toNat)
  case atStart => exact ⟨0, Nat.zero_le _, rfl, by rw [Nat.zero_mul, List.take_zero, over_nil]; exact Hown, hb1⟩
  case round =>
    obtain ⟨k, hk, rfl, hown, hlat⟩ := hrel
    by_cases hlt : k < n
    · go_wp2_with fail
      refine (filled_c c _).mono ?_
      rintro e w2 ⟨rfl, hl2⟩
      have hown2 := owns_kept hown.out (w' := w2) (fun g' hg => hl2.block g' (hown.out.lt g' hg).2)
      have hlat2 := hide (hlat.out.trans hl2)
      have hsg : Hid (seg (List.replicate (n * 64) c) (k * 64) 64 = List.replicate 64 c) := rep_seg c (n * 64) (k * 64) 64 (by omega)
      generalize hX : List.replicate 64 c = X at *
      have hxl : Hid (X.length = 64) := by unfold Hid; rw [← hX]; simp
      clear hX
      have hbxl : Hid ((bv X).toArray.size = 64) := by unfold Hid; simp [bv_length, hxl.out]
      have hth := hide (owns_there hown2 (k * 64) 64 (by omega))
      have hst := hide (owns_setCells hown2 (bv X) (k * 64) (by rw [bv_length, hxl.out]; omega)).1
      have hlat3 := hide (hlat2.out.setCells (Nat.le_refl _) (bv X) (k * 64))
      clear hown2 hl2 hown hlat
      go_wp2_with (refine wpList_store_mid rfl 41 (.tmp 25) (.tmp 24) rfl w.heap.size (k * 64) (bv X).toArray rfl rfl (by rw [hbxl.out]; exact hth.out) (by rw [hbxl.out]; exact Try.info_block) (all_oneCell_toArray (bv_one _)) ?_)
      go_roundw
      case rel =>
        refine ⟨k + 1, by omega, by go_num, ?_, hlat3⟩
        unfold Hid
        rw [over_step _ _ 0 k (by simp; omega) (by simp), hsg.out, Nat.zero_add, bv_over]
        exact hst.out
      case measure => simp [intOf]; omega
    · have hkn : Hid (k = n) := by unfold Hid; omega
      go_wp2
      go_ret2
      refine ⟨_, rfl, hlat.out, ?_⟩
      have := hown.out
      rwa [hkn.out, List.take_of_length_le (by simp), over_full _ _ (by simp)] at this
theorem bmake_o (n : Int) (c : UInt8) (w : World) (hn1 : -9223372036854775808 ≤ n) (hn2 : n ≤ 9223372036854775807) :
    Calls Try.prog 20 #[.int .i64 n, .int .u8 (c.toNat : Int)] w fun e w' => ∃ v, e = .returned (.tuple #[v, .int .i64 (makeE n)]) ∧ Later w w' ∧ w'.ownsRow w.heap.size 41 64 v (makeN n) (bv (List.replicate (makeN n * 64) c)) := by
  unfold makeE makeN
  by_cases h : 0 ≤ n ∧ n ≤ 64
  · rw [if_pos h, if_pos h]
    obtain ⟨k, rfl⟩ := Int.eq_ofNat_of_zero_le h.1
    exact bmake_yes k c w (by omega)
  · rw [if_neg h, if_neg h]
    exact (bmake_no n _ w (by omega)).mono fun e w' ⟨he, hw⟩ => ⟨_, he, by rw [hw]; exact Later.refl w, World.ownsRow_nil _ _ _ _⟩
theorem bmake_c (n : Int) (c : UInt8) (w : World) (hn1 : -9223372036854775808 ≤ n) (hn2 : n ≤ 9223372036854775807) :
    Calls Try.prog 20 #[.int .i64 n, .int .u8 (c.toNat : Int)] w fun e w' => ∃ v, e = .returned (.tuple #[v, .int .i64 (makeE n)]) ∧ Later w w' ∧ Rw 64 w' v (makeN n) (bv (List.replicate (makeN n * 64) c)) :=
  (bmake_o n c w hn1 hn2).mono fun e w' ⟨v', he, hl, ho⟩ => ⟨v', he, hl, Rw.of_owns ho⟩
end Go.Proofs.Ytgleopnehdnpdaa
