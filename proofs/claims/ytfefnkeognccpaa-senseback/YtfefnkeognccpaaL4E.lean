import Derived.Test.YtfefnkeognccpaaL4I
namespace Go.Proofs.Ytfefnkeognccpaa
open Go.ChangeShapes Go.WideShapes Go.ChangeAt Go.RowKit
set_option linter.unusedVariables false
set_option linter.unusedSimpArgs false

def of16 : List Sns := [(2, 58, 0), (7, 39, 0), (5, 83, 2), (5, 33, 0), (5, 36, 0), (5, 32, 0), (5, 37, 0), (5, 38, 0), (5, 26, 0), (5, 57, 0), (14, 29, 0), (6, 41, 0), (6, 41, 2), (6, 41, 3), (6, 41, 7), (6, 40, 0)]
theorem of16_ok : ∀ s ∈ of16, OkS s := by
  intro s hs
  simp [of16] at hs
  rcases hs with rfl | rfl | rfl | rfl | rfl | rfl | rfl | rfl | rfl | rfl | rfl | rfl | rfl | rfl | rfl | rfl <;> exact ⟨by simp, by simp, by simp⟩
theorem of16_bad : ∀ s ∈ of16, (s == (0, 0, 0)) = false := by decide
/-- each of the sixteen senses is what it is -/
def ICons : Prop := IConS 25 (2, 58, 0) ∧ IConS 26 (7, 39, 0) ∧ IConS 27 (5, 83, 2) ∧ IConS 28 (5, 33, 0) ∧ IConS 29 (5, 36, 0) ∧ IConS 30 (5, 32, 0) ∧ IConS 31 (5, 37, 0) ∧ IConS 32 (5, 38, 0) ∧ IConS 33 (5, 26, 0) ∧ IConS 34 (5, 57, 0) ∧ IConS 35 (14, 29, 0) ∧ IConS 19 (6, 41, 0) ∧ IConS 20 (6, 41, 2) ∧ IConS 21 (6, 41, 3) ∧ IConS 22 (6, 41, 7) ∧ IConS 23 (6, 40, 0)
set_option maxRecDepth 20000 in
set_option maxHeartbeats 4000000 in
theorem alive4_c (iC : ICons) (iB : IBytesS) (iP : IParseS) (iG : IGoodS) (iA : IAddS) (iF : IFirstS) : Alive4 := by
  intro w
  obtain ⟨k0, k1, k2, k3, k4, k5, k6, k7, k8, k9, k10, k11, k12, k13, k14, k15⟩ := iC
  have L := hide (Later.refl w)
  go_enter Try.func7, Try.ntmps7
  go_wp2_with fail
  refine (k0 _).mono ?_
  rintro e u0 ⟨rfl, hl⟩
  replace L := hide (L.out.later hl)
  clear hl
  go_wp2_with fail
  refine (k1 _).mono ?_
  rintro e u1 ⟨rfl, hl⟩
  replace L := hide (L.out.later hl)
  clear hl
  go_wp2_with fail
  refine (k2 _).mono ?_
  rintro e u2 ⟨rfl, hl⟩
  replace L := hide (L.out.later hl)
  clear hl
  go_wp2_with fail
  refine (k3 _).mono ?_
  rintro e u3 ⟨rfl, hl⟩
  replace L := hide (L.out.later hl)
  clear hl
  go_wp2_with fail
  refine (k4 _).mono ?_
  rintro e u4 ⟨rfl, hl⟩
  replace L := hide (L.out.later hl)
  clear hl
  go_wp2_with fail
  refine (k5 _).mono ?_
  rintro e u5 ⟨rfl, hl⟩
  replace L := hide (L.out.later hl)
  clear hl
  go_wp2_with fail
  refine (k6 _).mono ?_
  rintro e u6 ⟨rfl, hl⟩
  replace L := hide (L.out.later hl)
  clear hl
  go_wp2_with fail
  refine (k7 _).mono ?_
  rintro e u7 ⟨rfl, hl⟩
  replace L := hide (L.out.later hl)
  clear hl
  go_wp2_with fail
  refine (k8 _).mono ?_
  rintro e u8 ⟨rfl, hl⟩
  replace L := hide (L.out.later hl)
  clear hl
  go_wp2_with fail
  refine (k9 _).mono ?_
  rintro e u9 ⟨rfl, hl⟩
  replace L := hide (L.out.later hl)
  clear hl
  go_wp2_with fail
  refine (k10 _).mono ?_
  rintro e u10 ⟨rfl, hl⟩
  replace L := hide (L.out.later hl)
  clear hl
  go_wp2_with fail
  refine (k11 _).mono ?_
  rintro e u11 ⟨rfl, hl⟩
  replace L := hide (L.out.later hl)
  clear hl
  go_wp2_with fail
  refine (k12 _).mono ?_
  rintro e u12 ⟨rfl, hl⟩
  replace L := hide (L.out.later hl)
  clear hl
  go_wp2_with fail
  refine (k13 _).mono ?_
  rintro e u13 ⟨rfl, hl⟩
  replace L := hide (L.out.later hl)
  clear hl
  go_wp2_with fail
  refine (k14 _).mono ?_
  rintro e u14 ⟨rfl, hl⟩
  replace L := hide (L.out.later hl)
  clear hl
  go_wp2_with fail
  refine (k15 _).mono ?_
  rintro e u15 ⟨rfl, hl⟩
  replace L := hide (L.out.later hl)
  clear hl
  go_wp2_with (first
    | refine wpList_buildC rfl 43 _ rfl (sv of16).toArray (by kernel_rfl) ?_
    | refine wpList_new rfl rfl 43 rfl 1 rfl (of_decide_eq_true (by kernel_rfl)) (.tmp 25) (by simp) rfl (Array.replicate 48 (.int .i64 0)) (sv of16) (by kernel_rfl) rfl rfl (sv_one _) ?_)
  intro gA wA hB hl hg
  replace L := hide (L.out.later hl)
  have BA := hide hB
  clear hB hl hg
  go_wp2_with (first
    | refine wpList_buildC rfl 45 _ rfl (sv of16).toArray (by kernel_rfl) ?_
    | refine wpList_new rfl rfl 45 rfl 2 rfl (of_decide_eq_true (by kernel_rfl)) (.tmp 42) (by simp) rfl (Array.replicate 48 (.int .i64 0)) (sv of16) (by kernel_rfl) rfl rfl (sv_one _) ?_)
  intro gB wB hB hl hg
  replace L := hide (L.out.later hl)
  replace BA := hide (BA.out.later hl)
  have BB := hide hB
  clear hB hl hg
  go_wp2_with fail
  clear k0 k1 k2 k3 k4 k5 k6 k7 k8 k9 k10 k11 k12 k13 k14 k15
  go_loopw [3] (fun i wr => ∃ q : Nat, q ≤ 16 ∧ i = .int .i64 q ∧ Hid (Later w wr) ∧ Hid (Box wr gA 43 (sv of16)) ∧ Hid (Box wr gB 45 (sv of16))) (fun i _ => 16 - (intOf i).toNat)
  case atStart => exact ⟨0, Nat.zero_le _, rfl, L, BA, BB⟩
  case round =>
    clear L BA BB
    obtain ⟨q, hq, rfl, L, BA, BB⟩ := hrel
    by_cases hlt : q < 16
    · have hq16 : q < of16.length := hlt
      have ca := box_sense BA.out q hq16
      have cb := box_sense BB.out q hq16
      have HSok := hide (of16_ok _ (List.getElem_mem hq16))
      have HSg := hide (of16_bad _ (List.getElem_mem hq16))
      generalize of16[q]'hq16 = S at *
      have hc := fun r => ((Later.refl wr).drew.trans (later_rg wr.drew r))
      have a0 := fun r => (hc r).cellOf ca.1
      have a1 := fun r => (hc r).cellOf ca.2.1
      have a2 := fun r => (hc r).cellOf ca.2.2
      have b0 := fun r => (hc r).cellOf cb.1
      have b1 := fun r => (hc r).cellOf cb.2.1
      have b2 := fun r => (hc r).cellOf cb.2.2
      clear ca cb
      go_wp2_with fail
      refine wp_region_sched ((List.range 23).map fun i => (i, false)) (by kernel_rfl) (by kernel_rfl) (by kernel_rfl) (by kernel_rfl) ?_
      simp only [List.range, List.range.loop, List.map]
      iterate 15 (refine wpS_mild rfl (fun K hK => ?_); go_simp; refine hK _ ?_; clear hK K)
      refine wpS_call rfl (by kernel_rfl) 13 (Plain.of (by kernel_rfl)) [.tmp 53, .tmp 57, .tmp 61] _ rfl [.int .i64 S.1, .int .i64 S.2.1, .int .i64 S.2.2] rfl (sval S) (fun wx hx => rof_c _ _ _ wx) ?_
      refine wpS_neqG rfl (by kernel_rfl) 23 _ (.tmp 49) (.tmp 62) rfl _ _ rfl rfl Try.guard_sense (S == S) (fun w => sense_eq S S w) ?_
      rw [show (S == S) = true from by simp]
      iterate 4 (refine wpS_mild rfl (fun K hK => ?_); go_simp; refine hK _ ?_; clear hK K)
      refine wpS_call rfl (by kernel_rfl) 12 (Plain.of (by kernel_rfl)) [.tmp 67] _ rfl [sval S] rfl (.bool false) (fun wx hx => by have := iG S wx HSok.out; rw [HSg.out] at this; exact this) ?_
      iterate 1 (refine wpS_mild rfl (fun K hK => ?_); go_simp; refine hK _ ?_; clear hK K)
      refine wpS_nil (fun wx hwx => ?_)
      have hl := (Later.refl wr).drew.trans hwx
      replace L := hide (L.out.later hl)
      replace BA := hide (BA.out.later hl)
      replace BB := hide (BB.out.later hl)
      clear hl hwx hc a0 a1 a2 b0 b1 b2
      go_wp2
      go_roundw
      case rel => exact ⟨q + 1, by omega, by go_num, L, BA, BB⟩
      case measure => simp [intOf]; omega
    · clear BB
      have c0 : wr.cell? ⟨gA, 6, none⟩ = some (.int .i64 5) := BA.out.cell 6
      have c1 : wr.cell? ⟨gA, 7, none⟩ = some (.int .i64 83) := BA.out.cell 7
      have c2 : wr.cell? ⟨gA, 8, none⟩ = some (.int .i64 2) := BA.out.cell 8
      go_wp2_with fail
      refine (iB (5, 83, 2) _ ⟨by simp, by simp, by simp⟩).mono ?_
      rintro e w1 ⟨v1, rfl, hl, hb1⟩
      replace L := hide (L.out.later hl)
      replace BA := hide (BA.out.later hl)
      have B1 := hide hb1
      clear hl hb1 c0 c1 c2
      obtain ⟨_, a1, k1, rfl, _, _⟩ := B1.out
      go_wp2_with fail
      refine (iP _ (bytesL (5, 83, 2)) _ B1.out (by rw [bytesL_length]; omega)).mono ?_
      rintro e w2 ⟨rfl, hl⟩
      replace L := hide (L.out.later hl)
      replace BA := hide (BA.out.later hl)
      clear hl B1
      rw [show parseS (bytesL (5, 83, 2)) = (5, 83, 2) from by decide, show parseB (bytesL (5, 83, 2)) = true from by decide]
      go_wp2_with (refine wpList_newS rfl rfl rfl 4 rfl (of_decide_eq_true (by kernel_rfl)) (.tmp 75) (by simp) rfl (5, 83, 2) rfl ?_)
      intro g4 w3 hB hl hg
      replace L := hide (L.out.later hl)
      replace BA := hide (BA.out.later hl)
      have B4 := hide hB
      clear hB hl hg
      go_wp2_with fail
      have hc := fun r => ((Later.refl w3).drew.trans (later_rg w3.drew r))
      have n0 : ∀ r, (rg w3.drew r).cell? ⟨gA, 45, none⟩ = some (.int .i64 6) := fun r => (BA.out.later (hc r)).cell 45
      have n1 : ∀ r, (rg w3.drew r).cell? ⟨gA, 46, none⟩ = some (.int .i64 40) := fun r => (BA.out.later (hc r)).cell 46
      have n2 : ∀ r, (rg w3.drew r).cell? ⟨gA, 47, none⟩ = some (.int .i64 0) := fun r => (BA.out.later (hc r)).cell 47
      have b0 : ∀ r, (rg w3.drew r).cell? ⟨gA, 36, none⟩ = some (.int .i64 6) := fun r => (BA.out.later (hc r)).cell 36
      have b1 : ∀ r, (rg w3.drew r).cell? ⟨gA, 37, none⟩ = some (.int .i64 41) := fun r => (BA.out.later (hc r)).cell 37
      have b2 : ∀ r, (rg w3.drew r).cell? ⟨gA, 38, none⟩ = some (.int .i64 2) := fun r => (BA.out.later (hc r)).cell 38
      refine wp_region_sched [(0, false), (1, false), (3, false), (4, false), (2, true), (5, true), (6, false)] (by kernel_rfl) (by kernel_rfl) (by kernel_rfl) (by kernel_rfl) ?_
      iterate 4 (refine wpS_mild rfl (fun K hK => ?_); go_simp; refine hK _ ?_; clear hK K)
      clear hc n0 n1 n2 b0 b1 b2
      refine wpS_callL rfl (by kernel_rfl) 14 (Plain.of (by kernel_rfl)) [.const (.slice none 0 0), .tmp 78] _ rfl [.slice none 0 0, sval (6, 40, 0)] rfl (fun v W => Sl W v [(6, 40, 0)]) (fun wx hx => (iA _ [] (6, 40, 0) wx (Sl.nil wx) ⟨by simp, by simp, by simp⟩ (by simp)).mono fun e w' ⟨v', h1, h2, h3, _⟩ => ⟨v', h1, h2, h3⟩) ?_
      intro v5 b1 hl1 S5
      have hl := (Later.refl w3).drew.trans hl1
      replace L := hide (L.out.later hl)
      replace BA := hide (BA.out.later hl)
      replace B4 := hide (B4.out.later hl)
      clear hl hl1
      refine wpS_callL rfl (by kernel_rfl) 14 (Plain.of (by kernel_rfl)) [.tmp 79, .tmp 81] _ rfl [v5, sval (6, 41, 2)] rfl (fun v W => Sl W v [(6, 40, 0), (6, 41, 2)]) (fun wx hx => (iA _ [(6, 40, 0)] (6, 41, 2) wx (S5.later hx) ⟨by simp, by simp, by simp⟩ (by simp)).mono fun e w' ⟨v', h1, h2, h3, _⟩ => ⟨v', h1, h2, h3⟩) ?_
      intro v6 b2 hl S6
      replace L := hide (L.out.later hl)
      replace BA := hide (BA.out.later hl)
      replace B4 := hide (B4.out.later hl)
      clear hl S5
      have HS6 := hide S6
      obtain ⟨a6, n6, c6, rfl, HN6, _⟩ := S6.shape
      obtain rfl : n6 = 2 := HN6.out
      clear S6
      iterate 1 (refine wpS_mild rfl (fun K hK => ?_); go_simp; refine hK _ ?_; clear hK K)
      refine wpS_nil (fun w4 hl => ?_)
      replace L := hide (L.out.later hl)
      replace BA := hide (BA.out.later hl)
      replace B4 := hide (B4.out.later hl)
      replace HS6 := hide (HS6.out.later hl)
      clear hl
      go_wp2_with fail
      refine (iF _ _ _ HS6.out (by simp)).mono ?_
      rintro e w5 ⟨v7, rfl, hl, S7, _⟩
      replace L := hide (L.out.later hl)
      replace BA := hide (BA.out.later hl)
      replace B4 := hide (B4.out.later hl)
      replace HS6 := hide (HS6.out.later hl)
      obtain ⟨a7, n7, c7, rfl, HN7, _⟩ := S7.shape
      obtain rfl : n7 = 1 := HN7.out
      clear hl S7
      rw [show headS [(6, 40, 0), (6, 41, 2)] = (6, 40, 0) from rfl]
      go_wp2_with (refine wpList_newS rfl rfl rfl 7 rfl (of_decide_eq_true (by kernel_rfl)) (.tmp 86) (by simp) rfl (6, 40, 0) rfl ?_)
      intro g7 w6 hB hl hg
      replace L := hide (L.out.later hl)
      replace BA := hide (BA.out.later hl)
      replace B4 := hide (B4.out.later hl)
      replace HS6 := hide (HS6.out.later hl)
      have B7 := hide hB
      clear hB hl hg
      have c0 : w6.cell? ⟨gA, 6, none⟩ = some (.int .i64 5) := BA.out.cell 6
      have c1 : w6.cell? ⟨gA, 7, none⟩ = some (.int .i64 83) := BA.out.cell 7
      have c2 : w6.cell? ⟨gA, 8, none⟩ = some (.int .i64 2) := BA.out.cell 8
      have n0 : w6.cell? ⟨gA, 45, none⟩ = some (.int .i64 6) := BA.out.cell 45
      have n1 : w6.cell? ⟨gA, 46, none⟩ = some (.int .i64 40) := BA.out.cell 46
      have n2 : w6.cell? ⟨gA, 47, none⟩ = some (.int .i64 0) := BA.out.cell 47
      have p0 : w6.cell? ⟨gA, 33, none⟩ = some (.int .i64 6) := BA.out.cell 33
      have p1 : w6.cell? ⟨gA, 34, none⟩ = some (.int .i64 41) := BA.out.cell 34
      have p2 : w6.cell? ⟨gA, 35, none⟩ = some (.int .i64 0) := BA.out.cell 35
      have x0 := B4.out.cell 0
      have x1 := B4.out.cell 1
      have x2 := B4.out.cell 2
      have y0 := B7.out.cell 0
      have y1 := B7.out.cell 1
      have y2 := B7.out.cell 2
      go_wp2_with (first
        | refine wpList_eqS (by kernel_rfl) (.tmp 90) (.tmp 92) rfl (5, 83, 2) (5, 83, 2) rfl rfl ?_
        | refine wpList_eqS (by kernel_rfl) (.tmp 101) (.tmp 103) rfl (6, 40, 0) (6, 40, 0) rfl rfl ?_)
      clear c0 c1 c2 n0 n1 n2 p0 p1 p2 x0 x1 x2 y0 y1 y2 B4 B7 BA
      refine (iA _ _ (6, 41, 0) _ HS6.out ⟨by simp, by simp, by simp⟩ (by simp)).mono ?_
      rintro e w7 ⟨v8, rfl, hl, S8, _⟩
      replace L := hide (L.out.later hl)
      obtain ⟨a8, n8, c8, rfl, HN8, _⟩ := S8.shape
      obtain rfl : n8 = 1 := HN8.out
      clear hl S8
      go_wp2_with fail
      refine (iG (0, 0, 0) _ ⟨by simp, by simp, by simp⟩).mono ?_
      rintro e w8 ⟨rfl, hl⟩
      replace L := hide (L.out.later hl)
      clear hl
      go_wp2
      go_ret
      refine ⟨?_, L.out⟩
      first | rfl | simp
end Go.Proofs.Ytfefnkeognccpaa
