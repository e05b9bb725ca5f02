import Derived.Test.YtgleopnehdnpdaaB2
namespace Go.Proofs.Ytgleopnehdnpdaa
open Go.ChangeShapes Go.WideShapes Go.ChangeAt Go.RowKit
set_option linter.unusedVariables false
set_option linter.unusedSimpArgs false

set_option maxHeartbeats 400000 in
theorem first_yes (bk off len cap : Nat) (l : List UInt8) (w : World) (hl : l.length = len) (hm : len ≤ maxLen) (ha : 64 ≤ len)
   (hc : ∀ i (h : i < l.length), w.cell? ⟨bk, off + i, none⟩ = some (.int .u8 (l[i].toNat : Int))) :
    Calls Try.prog 23 #[.slice (some ⟨bk, off, none⟩) len cap] w fun e w' => e = .returned (.agg (bv (seg l 0 64)).toArray) ∧ Later w w' := by
  unfold maxLen at hm
  go_enter Try.func23, Try.ntmps23
  go_wp2
  go_loopw [5] (fun i wr => ∃ k : Nat, k ≤ 64 ∧ i = .int .i64 k ∧ Hid (∃ zs, zs.length = 64 ∧ Box wr w.heap.size 41 zs) ∧ Hid (Box wr (w.heap.size + 1) 41 (bv (partB l 0 k))) ∧ Hid (Later w wr)) (fun i _ => 64 - (intOf i).toNat)
  case atStart =>
    refine ⟨0, Nat.zero_le _, rfl, ?_, ?_, ?_⟩
    · exact ⟨_, rfl, (Box.new w _ _).alloc _⟩
    · rw [partB_zero, zeros64]
      exact Box.new' (w.alloc _) _ _ _ rfl _ (by simp)
    · exact ((Later.refl w).alloc _).alloc _
  case round =>
    obtain ⟨k, hk, rfl, hz, hbox, hlat⟩ := hrel
    by_cases hlt : k < 64
    · have hcx := hlat.out.cellOf (hc k (by omega))
      have hst := hide (partB_set l 0 k hlt (by omega))
      have hlen := partB_length l 0 k (by omega) (by omega)
      obtain ⟨u, hcell⟩ : ∃ u : Value, wr.cell? ⟨w.heap.size + 1, k, none⟩ = some u := by
        rw [hbox.out.cell k]
        exact ⟨_, List.getElem?_eq_getElem (by rw [bv_length, hlen]; exact hlt)⟩
      have hfz := hbox.out.frozen k
      clear hc hlen
      go_wp2
      go_roundw
      case rel =>
        refine ⟨k + 1, by omega, by go_num, ?_, ?_, ?_⟩
        · obtain ⟨zs, h1, h2⟩ := hz.out
          exact ⟨zs, h1, h2.other _ _ (by simp)⟩
        · unfold Hid
          rw [hst.out, bv_set]
          simp only [Nat.zero_add]
          exact hbox.out.set k _
        · exact hlat.out.setCell (by simp) _
      case measure => simp [intOf]; omega
    · have hk64 : k = 64 := by omega
      rw [hk64, partB_all] at hbox
      have hsl := seg_length l 0 64 (by omega)
      obtain ⟨zs, hzl, hzb⟩ := hz.out
      clear hk64 hz
      generalize hX : seg l 0 64 = X at *
      have HX := hide hX
      clear hX
      have hth := hzb.there 0 64 (by omega)
      have hbl : (bv X).toArray.size = 64 := by simp [bv_length, hsl]
      have Hb := hzb.setCells (bv X) 0 (by rw [bv_length]; omega)
      have HB : Hid (Box (wr.setCells w.heap.size 0 (bv X)) w.heap.size 41 (bv X)) := by
        have e : zs.take 0 ++ bv X ++ zs.drop (0 + (bv X).length) = bv X := by
          rw [bv_length, hsl, List.drop_of_length_le (by omega)]; simp
        rwa [e] at Hb
      have HL := hide (hlat.out.setCells (Nat.le_refl _) (bv X) 0)
      have hbx := hide hbox.out.range
      have HTH := hide hth
      have HSZ := hide hbl
      have HSL := hide hsl
      clear Hb hzb hzl hsl hth hbl hbox hlat hc
      go_wp2_with (first
        | refine wpList_load_mid rfl 41 (.tmp 3) rfl (w.heap.size + 1) 0 rfl (bv X) _ hbx.out Try.underlying41 rfl (by rw [Try.info_block, bv_length, HSL.out]) ?_
        | refine wpList_store_mid rfl 41 (.tmp 2) (.tmp 15) rfl w.heap.size 0 (bv X).toArray rfl rfl (by rw [HSZ.out]; exact HTH.out) (by rw [HSZ.out]; exact Try.info_block) (all_oneCell_toArray (bv_one _)) ?_)
      refine bodyPost_ret (results_cell1 rfl _ _ _ w.heap.size 0 rfl (.agg (bv X).toArray) (run_loadVar_mid _ _ _ _ _ _ HB.out.range Try.underlying41 rfl (by rw [Try.info_block, bv_length, HSL.out]))) rfl ⟨by rw [HX.out], HL.out⟩
theorem first_c {v : Value} {l : List UInt8} (w : World) (h : Bs w v l) (ha : 64 ≤ l.length) :
    Calls Try.prog 23 #[v] w fun e w' => e = .returned (.agg (bv (seg l 0 64)).toArray) ∧ Later w w' := by
  obtain ⟨hm, ad, cap, rfl, _, h⟩ := h
  rcases h with rfl | ⟨b, off, rfl, hc⟩
  · simp at ha
  · exact first_yes b off l.length cap l w rfl hm ha hc
theorem seg_drop (l : List UInt8) (a k : Nat) : seg (l.drop a) 0 k = seg l a k := by simp [seg]

set_option maxHeartbeats 2000000 in
theorem bsplit_o {v : Value} {l : List UInt8} (w : World) (h : Bs w v l) (hl : l.length ≤ 100000) :
    Calls Try.prog 16 #[v] w fun e w' => ∃ v1 v2, e = .returned (.tuple #[v1, v2]) ∧ Later w w' ∧ w'.ownsRow w.heap.size 41 64 v1 (l.length / 64) (bv (l.take (l.length / 64 * 64))) ∧
      w'.ownsRow w.heap.size 5 1 v2 (l.length % 64) (bv (l.drop (l.length / 64 * 64))) := by
  have hB := hide h
  obtain ⟨hm, ad, cap, rfl, hcap, hcells⟩ := h
  clear hcells
  unfold maxLen at hm
  obtain ⟨lb, hlb⟩ : ∃ n : Nat, n = l.length := ⟨_, rfl⟩
  rw [← hlb] at hm hl hcap hB ⊢
  have HLB := hide hlb
  clear hlb
  obtain ⟨n, hn⟩ : ∃ n : Nat, n = lb / 64 := ⟨_, rfl⟩
  have hq : ((lb : Int) / 64) = (n : Int) := by omega
  rw [← hn]
  have hn64 : n * 64 ≤ lb := by omega
  have hr : Hid (lb % 64 = lb - n * 64) := by unfold Hid; omega
  clear hn
  go_enter Try.func16, Try.ntmps16
  go_wp2_with (at_make; refine wpList_make_of Try.elem_z64 rfl _ _ 22 rfl Try.underlying22 _ _ n rfl rfl ?c0 ?c0' ?c1 ?c2 _ (made64 n) ?_)
  case c0 => omega
  case c0' => omega
  case c1 => omega
  case c2 => unfold maxLen; omega
  rintro w1 hown hl1
  have hb1 := hide hl1
  have Hown := hide hown
  clear hown hl1
  go_wp2
  go_loopw [13] (fun i wr => ∃ k : Nat, k ≤ n ∧ i = .int .i64 k ∧ Hid (wr.ownsRow w.heap.size 41 64 (.slice (some ⟨w.heap.size, 0, none⟩) n n) n (bv (over (List.replicate (n * 64) 0) 0 ((l.take (n * 64)).take (k * 64))))) ∧ Hid (Later w wr)) (fun i _ => n - (intOf i).toNat)
  case atStart => exact ⟨0, Nat.zero_le _, rfl, by rw [Nat.zero_mul, List.take_zero, over_nil]; exact Hown, hb1⟩
  case round =>
    obtain ⟨k, hk, rfl, hown, hlat⟩ := hrel
    have hrw := hide ((hB.out.below hlat.out (Nat.le_refl _)).rw)
    rw [← HLB.out] at hrw
    by_cases hlt : k < n
    · go_wp2_with (refine wpList_slice_lo Try.underlying25 (info_size_of Try.elem_u8) rfl (.tmp 18) (.tmp 20) rfl _ lb (bv l) rfl hrw.out _ (k * 64) rfl ?e1 ?e2 ?_)
      case e1 => omega
      case e2 => omega
      intro v3 hr3
      have Hb3 : Hid (Bs wr v3 (l.drop (k * 64))) := by have := hr3.out; rw [HLB.out, bv_tail] at this; exact this.bs.1
      have hdl : (l.drop (k * 64)).length = lb - k * 64 := by rw [HLB.out]; simp
      clear hr3 hrw
      go_wp2_with fail
      refine (first_c _ Hb3.out (by rw [hdl]; omega)).mono ?_
      rintro e w2 ⟨rfl, hl2⟩
      have hown2 := owns_kept hown.out (w' := w2) (fun g' hg => hl2.block g' (hown.out.lt g' hg).2)
      have hlat2 := hide (hlat.out.trans hl2)
      rw [seg_drop]
      have hsg : Hid (seg (l.take (n * 64)) (k * 64) 64 = seg l (k * 64) 64) := by
        unfold Hid seg
        rw [List.drop_take, List.take_take, Nat.min_eq_left (by omega)]
      have hxl0 := seg_length l (k * 64) 64 (by have := HLB.out; omega)
      generalize hX : seg l (k * 64) 64 = X at *
      have hxl := hide hxl0
      clear hX hxl0
      have hbxl : Hid ((bv X).toArray.size = 64) := by unfold Hid; simp [bv_length, hxl.out]
      have hth := hide (owns_there hown2 (k * 64) 64 (by omega))
      have hst := hide (owns_setCells hown2 (bv X) (k * 64) (by rw [bv_length, hxl.out]; omega)).1
      have hlat3 := hide (hlat2.out.setCells (Nat.le_refl _) (bv X) (k * 64))
      clear hown2 hl2 hown hlat Hb3 hdl
      go_wp2_with (refine wpList_store_mid rfl 41 (.tmp 23) (.tmp 22) rfl w.heap.size (k * 64) (bv X).toArray rfl rfl (by rw [hbxl.out]; exact hth.out) (by rw [hbxl.out]; exact Try.info_block) (all_oneCell_toArray (bv_one _)) ?_)
      go_roundw
      case rel =>
        refine ⟨k + 1, by omega, by go_num, ?_, hlat3⟩
        have hll := HLB.out
        unfold Hid
        rw [over_step _ _ 0 k (by simp; omega) (by simp; omega), hsg.out, Nat.zero_add, bv_over]
        exact hst.out
      case measure => simp [intOf]; omega
    · have hkn : Hid (k = n) := by unfold Hid; omega
      have hown1 : Hid (wr.ownsRow w.heap.size 41 64 (.slice (some ⟨w.heap.size, 0, none⟩) n n) n (bv (l.take (n * 64)))) := by
        have hll := HLB.out
        have := hown.out
        rw [hkn.out, List.take_of_length_le (by simp; omega), over_full _ _ (by simp; omega)] at this
        exact this
      have hmod : ((lb : Int) % 64) = ((lb - n * 64 : Nat) : Int) := by omega
      obtain ⟨r, hrr⟩ : ∃ r : Nat, r = lb - n * 64 := ⟨_, rfl⟩
      rw [← hrr] at hmod
      have Hrr := hide hrr
      have hr64 : r < 64 := by omega
      have hsub1 : n * 64 + r ≤ lb := by omega
      have hsub2 : lb ≤ n * 64 + r := by omega
      clear hown Hown hb1 hrr
      go_wp2_with (at_make; refine wpList_make_of Try.elem_u8 rfl _ _ 25 rfl Try.underlying25 _ _ r rfl rfl ?d0 ?d0' ?d1 ?d2 _ (made1 r) ?_)
      case d0 => omega
      case d0' => omega
      case d1 => omega
      case d2 => unfold maxLen; omega
      rintro w2 ho2 hl2
      have hlat2 := hide (hlat.out.trans hl2)
      have hown2 := hide (owns_kept hown1.out (w' := w2) (fun g' hg => hl2.block g' (hown1.out.lt g' hg).2))
      have hlt2 := hown1.out.lt w.heap.size rfl
      have hsz2 := hlat.out.size
      have Ho2 := hide (owns_rebase ho2 hsz2)
      have hrw2 := hide (hrw.out.later hl2)
      clear hrw hown1 hlat ho2 hl2
      generalize wr.heap.size = G at *
      go_wp2_with (refine wpList_slice_lo Try.underlying25 (info_size_of Try.elem_u8) rfl (.tmp 30) (.tmp 35) rfl _ lb (bv l) rfl hrw2.out _ (n * 64) rfl ?f1 ?f2 ?_)
      case f1 => omega
      case f2 => omega
      intro v3 hr3
      have hr3' : Hid (Rw 1 w2 v3 r (bv (l.drop (n * 64)))) := by
        have h1 := hr3.out
        have h2 := HLB.out
        have h3 := Hrr.out
        rw [h2, bv_tail, ← h2, ← h3] at h1
        exact h1
      have hdl : (l.drop (n * 64)).length = r := by have h2 := HLB.out; have h3 := Hrr.out; simp; omega
      have Hdl := hide hdl
      clear hr3 hrw2 hdl
      go_wp2_with (refine wpList_copy_rw Try.underlying25 (info_size_of Try.elem_u8) rfl (.tmp 29) (.tmp 36) rfl _ r r rfl _ r (bv (l.drop (n * 64))) rfl hr3'.out (bv_one _) (Nat.le_refl _) w.heap.size G r r 0 _ Ho2.out ?g1 (.inr rfl) w hlat2.out hsz2 ?_)
      case g1 => omega
      intro w3 ho3 hb3 hk3 hs3
      have Ho3 : Hid (w3.ownsRow w.heap.size 5 1 (.slice (some ⟨G, 0, none⟩) r r) r (bv (l.drop (n * 64)))) := by
        have h1 := Hdl.out
        rw [laid_bv, over_full _ _ (by rw [h1]; simp)] at ho3
        exact ho3
      have Hown3 := hide (owns_kept hown2.out (w' := w3) (fun g' hg => hk3 g' (by simp [Value.ownBlock] at hg; have := hlt2.2; omega)))
      have Hb3 := hide hb3
      clear ho3 hb3 hk3 hs3 hown2 Ho2 hr3'
      go_wp2_with fail
      go_ret2
      refine ⟨_, _, rfl, Hb3.out, Hown3.out, ?_⟩
      rw [hr.out, ← Hrr.out]
      exact Ho3.out
theorem bsplit_c {v : Value} {l : List UInt8} (w : World) (h : Bs w v l) (hl : l.length ≤ 100000) :
    Calls Try.prog 16 #[v] w fun e w' => ∃ v1 v2, e = .returned (.tuple #[v1, v2]) ∧ Later w w' ∧ Rw 64 w' v1 (l.length / 64) (bv (l.take (l.length / 64 * 64))) ∧ Bs w' v2 (l.drop (l.length / 64 * 64)) :=
  (bsplit_o w h (by omega)).mono fun e w' ⟨v1, v2, he, hl, h1, h2⟩ => ⟨v1, v2, he, hl, Rw.of_owns h1, (Bs.of_owns h2).1⟩
end Go.Proofs.Ytgleopnehdnpdaa
