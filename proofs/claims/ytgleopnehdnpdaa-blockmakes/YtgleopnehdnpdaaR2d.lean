import Derived.Test.YtgleopnehdnpdaaR2c
namespace Go.Proofs.Ytgleopnehdnpdaa
open Go.ChangeShapes Go.WideShapes Go.ChangeAt Go.RowKit
set_option linter.unusedVariables false
set_option linter.unusedSimpArgs false

theorem of_c {v : Value} {l : List UInt8} (a : Nat) (w : World) (h : Bs w v l) (ha : a + 64 ≤ l.length) :
    Calls Try.prog 22 #[v, .int .i64 a] w fun e w' => e = .returned (.agg (bv (seg l a 64)).toArray) ∧ Later w w' := by
  obtain ⟨hm, ad, cap, rfl, _, h⟩ := h
  rcases h with rfl | ⟨b, off, rfl, hc⟩
  · simp at ha
  · exact of_yes b off l.length cap l a w rfl hm ha hc

set_option maxHeartbeats 2000000 in
theorem rsplit_c {v : Value} {l : List UInt8} (w : World) (h : Bs w v l) (hl : l.length ≤ 140737488355328) :
    Calls Try.prog 17 #[v] w fun e w' => ∃ v1 v2, e = .returned (.tuple #[v1, v2]) ∧ Later w w' ∧ w'.ownsRow w.heap.size 41 64 v1 (l.length / 64) (bv (l.take (l.length / 64 * 64))) ∧
      w'.ownsRow w.heap.size 5 1 v2 (l.length % 64) (bv (l.drop (l.length / 64 * 64))) := by
  have hB := hide h
  obtain ⟨hm, ad, cap, rfl, hcap, hcells⟩ := h
  have HC := hide hcells
  clear hcells
  unfold maxLen at hm
  go_enter Try.func17, Try.ntmps17
  go_wp2
  go_loopw [4, 5] (fun v i wr => ∃ k : Nat, k * 64 ≤ l.length ∧ i = .int .i64 ((k * 64 : Nat) : Int) ∧ Hid (wr.ownsRow w.heap.size 41 64 v k (bv (l.take (k * 64)))) ∧ Hid (Later w wr)) (fun _ i _ => l.length - (intOf i).toNat)
  case atStart => exact ⟨0, by omega, rfl, by simpa [Hid, bv] using World.ownsRow_nil _ _ _ _, Later.refl w⟩
  case round =>
    obtain ⟨k, hk, rfl, hown, hlat⟩ := hrel
    by_cases hlt : k * 64 + 64 ≤ l.length
    · go_wp2_with fail
      refine (of_c _ _ (hB.out.below hlat.out (Nat.le_refl _)) (by omega)).mono ?_
      rintro e w2 ⟨rfl, hl2⟩
      have hown2 := hide (owns_kept hown.out (w' := w2) (fun g hg => by have := hown.out.lt g hg; exact hl2.block g this.2))
      have hlat2 := hide (hlat.out.trans hl2)
      clear hown hlat hl2
      have hxl := seg_length l (k * 64) 64 hlt
      generalize hX : seg l (k * 64) 64 = X at *
      have hstep := hide (take_snoc_seg l (k * 64) 64)
      rw [hX] at hstep
      clear hX
      go_wp2_with (refine wpList_buildOne Try.elem_z64 Try.underlying22 rfl (by decide) (by decide) rfl (.tmp 14) rfl (bv X) rfl (by rw [bv_length]; exact hxl) ?_)
      intro w3 hr3 hl3 hs3
      have hown3 := hide (owns_kept hown2.out (w' := w3) (fun g hg => by have := hown2.out.lt g hg; exact hl3.block g this.2))
      have hlat3 := hide (hlat2.out.trans hl3)
      have Hr3 := hide hr3
      have hsz3 := hlat3.out.size
      clear hown2 hlat2 hr3 hl3 hs3
      go_wp2_with (at_builtin; refine wpList_append_rw Try.elem_z64 Try.underlying22 rfl (by decide) rfl (.tmp 11) (.tmp 15) rfl w.heap.size _ k _ rfl hown3.out _ 1 (bv X) rfl Hr3.out (bv_one X) ?c1 ?c2 ?c3 w hlat3.out ?_)
      case c1 => omega
      case c2 => unfold maxLen; omega
      case c3 => exact hsz3
      intro v' w' ho' hb' _
      have R : Hid (w'.ownsRow w.heap.size 41 64 v' (k + 1) (bv (l.take ((k + 1) * 64))) ∧ Later w w') := by
        refine ⟨?_, hb'⟩
        rw [show (k + 1) * 64 = k * 64 + 64 from by omega, hstep.out, bv_append]
        exact ho'
      clear ho' hb' hown3 hlat3 Hr3
      go_wp2
      go_roundw
      case rel => exact ⟨k + 1, by omega, by go_num, R.out.1, R.out.2⟩
      case measure => simp [intOf]; omega
    · have hkd : Hid (k = l.length / 64) := by unfold Hid; omega
      have hown0 : Hid ((wr.alloc (.cells #[] 5)).ownsRow w.heap.size 5 1 (.slice (some ⟨wr.heap.size, 0, none⟩) 0 0) 0 (bv [])) := World.ownsRow_lit wr #[] 0 hlat.out.size (by simp [maxLen]) rfl
      have hlat0 := hide (hlat.out.alloc (.cells #[] 5))
      have hown1 := hide (hown.out.alloc (.cells #[] 5))
      have hbs0 := hide (hB.out.below hlat0.out (Nat.le_refl _))
      clear hown hlat
      have hrw := hide hbs0.out.rw
      clear HC hB hbs0
      go_wp2_with (refine wpList_slice_lo Try.underlying25 (info_size_of Try.elem_u8) rfl (.tmp 21) (.tmp 22) rfl _ l.length (bv l) rfl hrw.out _ (k * 64) rfl ?e1 hk ?_)
      case e1 => omega
      intro v3 hr3
      have Hb3 : Hid (Bs (wr.alloc (.cells #[] 5)) v3 (l.drop (k * 64))) := by have := hr3.out; rw [bv_tail] at this; exact this.bs.1
      have hdl : (l.drop (k * 64)).length = l.length - k * 64 := by simp
      have hsz0 := hlat0.out.size
      clear hr3 hrw
      go_wp2_with (at_builtin; refine wpList_append_bs rfl (.tmp 20) (.tmp 23) rfl w.heap.size _ 0 [] rfl hown0.out _ (l.drop (k * 64)) rfl Hb3.out ?d1 ?d2 w hlat0.out ?_)
      case d1 => rw [hdl]; omega
      case d2 => exact hsz0
      intro v4 w4 ho4 hb4 hg4
      have ho1 : Hid (w4.ownsRow w.heap.size 41 64 u4 k (bv (l.take (k * 64)))) := by
        refine owns_kept hown1.out (fun g hg => hg4.block g (hown1.out.lt g hg).2 ?_)
        intro e
        simp [Value.ownBlock] at e
        have h1 := hown1.out
        rcases h1.2 with ⟨rfl, _⟩ | ⟨g', cap', cur, rfl, _, hg', _⟩
        · simp [Value.ownBlock] at hg
        · simp [Value.ownBlock] at hg
          subst hg e
          rw [heap_alloc_new] at hg'
          simp at hg'
      have Ho4 := hide ho4
      have Hb4 := hide hb4
      clear ho4 hb4 hg4 hown0 hown1 hlat0 Hb3
      go_wp2
      go_ret2
      refine ⟨_, _, rfl, Hb4.out, ?_, ?_⟩
      · rw [← hkd.out]; exact ho1.out
      · have := Ho4.out
        rw [hkd.out] at this
        rw [show l.length % 64 = l.length - l.length / 64 * 64 from by omega]
        exact this
end Go.Proofs.Ytgleopnehdnpdaa
