import Derived.Test.YtfefnkeognccpaaL4I
namespace Go.Proofs.Ytfefnkeognccpaa
open Go.ChangeShapes Go.WideShapes Go.ChangeAt Go.RowKit
set_option linter.unusedVariables false
set_option linter.unusedSimpArgs false

theorem parse_bytes (x y z : UInt8) : parseB (bytesL ((x.toNat : Int), (y.toNat : Int), (z.toNat : Int))) = true ∧ parseS (bytesL ((x.toNat : Int), (y.toNat : Int), (z.toNat : Int))) = ((x.toNat : Int), (y.toNat : Int), (z.toNat : Int)) := by
  have h : sAt (bytesL ((x.toNat : Int), (y.toNat : Int), (z.toNat : Int))) = ((x.toNat : Int), (y.toNat : Int), (z.toNat : Int)) := by
    simp [sAt, bytesL, b8_byte]
  have hb : parseB (bytesL ((x.toNat : Int), (y.toNat : Int), (z.toNat : Int))) = true := by
    unfold parseB
    rw [h, bytesL_length]
    simp
  exact ⟨hb, by unfold parseS; rw [hb, if_pos rfl, h]⟩
theorem parse_yes {l : List UInt8} (h : parseB l = true) : bytesL (parseS l) = l := by
  unfold parseS
  rw [h, if_pos rfl]
  unfold parseB at h
  simp at h
  exact h.2
theorem parse_no {l : List UInt8} (h : parseB l = false) : parseS l = (0, 0, 0) := by
  unfold parseS
  rw [h]
  rfl
theorem parse_ok (l : List UInt8) : OkS (parseS l) := by
  unfold parseS
  split
  · have h : ∀ b : UInt8, (b.toNat : Int) < 256 := fun b => by have := UInt8.toNat_lt b; omega
    refine ⟨⟨?_, ?_⟩, ⟨?_, ?_⟩, ?_, ?_⟩ <;> simp only [sAt]
    · omega
    · have := h (l.getD 2 0); omega
    · omega
    · have := h (l.getD 12 0); omega
    · omega
    · have := h (l.getD 13 0); omega
  · exact ⟨by simp, by simp, by simp⟩
theorem three_bytes {v : Value} (h : RArr .u8 3 v) : ∃ x y z : UInt8, v = .agg #[.int .u8 (x.toNat : Int), .int .u8 (y.toNat : Int), .int .u8 (z.toNat : Int)] := by
  obtain ⟨zs, hl, rfl, hw⟩ := h
  match zs, hl with
  | [a, b, c], _ =>
    have h1 := bounds_u8 (hw a (by simp))
    have h2 := bounds_u8 (hw b (by simp))
    have h3 := bounds_u8 (hw c (by simp))
    refine ⟨b8 a, b8 b, b8 c, ?_⟩
    rw [b8_nat, b8_nat, b8_nat, Int.emod_eq_of_lt h1.1 (by omega), Int.emod_eq_of_lt h2.1 (by omega), Int.emod_eq_of_lt h3.1 (by omega)]
    rfl

set_option maxRecDepth 20000 in
set_option maxHeartbeats 2000000 in
theorem senseBack_walk (hal : Alive4) (iB : IBytesS) (iP : IParseS) (iG : IGoodS) (v0 v1 : Value) (w : World) (h0 : RArr .u8 3 v0) (h1 : RBytes w v1) :
    Calls Try.prog 4 #[v0, v1] w fun e w' => e = .returned (.bool true) ∧ Below w.heap.size w w' := by
  obtain ⟨x, y, z, rfl⟩ := three_bytes h0
  obtain ⟨l, hb⟩ := h1
  have HB := hide hb
  obtain ⟨hlm, al, cl, rfl, _, _⟩ := hb
  unfold maxLen at hlm
  obtain ⟨n, hn⟩ : ∃ n, n = l.length := ⟨_, rfl⟩
  rw [← hn] at HB hlm ⊢
  have HN := hide hn
  clear hn
  have hx : x.toNat < 256 := UInt8.toNat_lt x
  have hy : y.toNat < 256 := UInt8.toNat_lt y
  have hz : z.toNat < 256 := UInt8.toNat_lt z
  have hw2 : IntKind.i64.wrap (x.toNat : Int) = (x.toNat : Int) := by rw [IntKind.wrap_i64]; omega
  have hw12 : IntKind.i64.wrap (y.toNat : Int) = (y.toNat : Int) := by rw [IntKind.wrap_i64]; omega
  have hw13 : IntKind.i64.wrap (z.toNat : Int) = (z.toNat : Int) := by rw [IntKind.wrap_i64]; omega
  have HP := hide (parse_bytes x y z)
  have HO : Hid (OkS ((x.toNat : Int), (y.toNat : Int), (z.toNat : Int))) := ⟨by simp; omega, by simp; omega, by simp; omega⟩
  have BX := hide (Box.new w 31 #[.int .u8 (x.toNat : Int), .int .u8 (y.toNat : Int), .int .u8 (z.toNat : Int)])
  have L := hide ((Later.refl w).alloc (.cells #[.int .u8 (x.toNat : Int), .int .u8 (y.toNat : Int), .int .u8 (z.toNat : Int)] 31))
  go_enter Try.func4, Try.ntmps4
  go_wp2_with fail
  refine (hal _).mono ?_
  rintro e w1 ⟨rfl, hl⟩
  replace BX := hide (BX.out.later hl)
  replace L := hide (L.out.later hl)
  clear hl
  by_cases h100 : 100 < n
  · go_wp2
    go_ret
    exact ⟨rfl, L.out⟩
  have hn100 : n ≤ 100 := by omega
  have d0 := BX.out.cell 0
  have d1 := BX.out.cell 1
  have d2 := BX.out.cell 2
  go_wp2_with fail
  refine (rof_c _ _ _ _).mono ?_
  rintro e w2 ⟨rfl, hl⟩
  replace L := hide (L.out.later hl)
  clear hl d0 d1 d2 BX hw2 hw12 hw13
  generalize hS : (((x.toNat : Int), (y.toNat : Int), (z.toNat : Int)) : Sns) = S at *
  go_wp2_with (refine wpList_newS rfl rfl rfl 5 rfl (by simp) (.tmp 24) (by simp) rfl S rfl ?_)
  intro gs w3 hB hl hg
  replace L := hide (L.out.later hl)
  have BS := hide hB
  clear hB hl hg
  have d0 := BS.out.cell 0
  have d1 := BS.out.cell 1
  have d2 := BS.out.cell 2
  go_wp2_with fail
  refine (iB S _ HO.out).mono ?_
  rintro e w4 ⟨v4, rfl, hl, hb4⟩
  replace L := hide (L.out.later hl)
  replace BS := hide (BS.out.later hl)
  have B4 := hide hb4
  clear hl hb4 d0 d1 d2
  obtain ⟨_, a4, c4, rfl, _, _⟩ := B4.out
  go_wp2_with fail
  refine (iP _ (bytesL S) _ B4.out (by rw [bytesL_length]; omega)).mono ?_
  rintro e w5 ⟨rfl, hl⟩
  replace L := hide (L.out.later hl)
  replace BS := hide (BS.out.later hl)
  clear hl B4
  rw [HP.out.1, HP.out.2]
  go_wp2_with (refine wpList_newS rfl rfl rfl 6 rfl (by simp) (.tmp 29) (by simp) rfl S rfl ?_)
  intro gx w6 hB hl hg
  replace L := hide (L.out.later hl)
  replace BS := hide (BS.out.later hl)
  have BX := hide hB
  clear hB hl hg
  go_wp2_with fail
  refine (iP _ l _ (HB.out.later L.out) (by have := HN.out; omega)).mono ?_
  rintro e w7 ⟨rfl, hl⟩
  replace L := hide (L.out.later hl)
  replace BS := hide (BS.out.later hl)
  replace BX := hide (BX.out.later hl)
  clear hl
  go_wp2_with (refine wpList_newS rfl rfl rfl 8 rfl (by simp) (.tmp 34) (by simp) rfl (parseS l) rfl ?_)
  intro gy w8 hB hl hg
  replace L := hide (L.out.later hl)
  replace BS := hide (BS.out.later hl)
  replace BX := hide (BX.out.later hl)
  have BY := hide hB
  clear hB hl hg
  go_wp2_with fail
  refine wp_region_sched ([(0, false), (1, false), (2, false), (3, false), (4, false), (5, false), (6, false), (7, false), (8, true), (9, false), (10, false), (11, false), (12, false), (13, false), (14, false), (15, false), (16, false), (17, false), (18, false), (19, false), (20, false), (21, false), (22, false), (25, false), (26, false), (23, true), (24, false), (27, false), (28, false), (29, false), (30, false), (31, false)]) (by kernel_rfl) (by kernel_rfl) (by kernel_rfl) (by kernel_rfl) ?_
  have hc := fun r => ((Later.refl w8).drew.trans (later_rg w8.drew r))
  have s0 := fun r => (BS.out.later (hc r)).cell 0
  have s1 := fun r => (BS.out.later (hc r)).cell 1
  have s2 := fun r => (BS.out.later (hc r)).cell 2
  have x0 := fun r => (BX.out.later (hc r)).cell 0
  have x1 := fun r => (BX.out.later (hc r)).cell 1
  have x2 := fun r => (BX.out.later (hc r)).cell 2
  have y0 := fun r => (BY.out.later (hc r)).cell 0
  have y1 := fun r => (BY.out.later (hc r)).cell 1
  have y2 := fun r => (BY.out.later (hc r)).cell 2
  iterate 4 (refine wpS_mild rfl (fun K hK => ?_); go_simp; refine hK _ ?_; clear hK K)
  refine wpS_eqG rfl (by kernel_rfl) 23 _ (.tmp 38) (.tmp 39) rfl _ _ rfl rfl Try.guard_sense (S == S) (fun w => sense_eq S S w) ?_
  rw [show (S == S) = true from by simp]
  iterate 3 (refine wpS_mild rfl (fun K hK => ?_); go_simp; refine hK _ ?_; clear hK K)
  clear hc s0 s1 s2 x0 x1 x2 y0 y1 y2
  refine wpS_callL rfl (by kernel_rfl) 10 (Plain.of (by kernel_rfl)) [.tmp 43] _ rfl [sval S] rfl (fun v W => Bs W v (bytesL S)) (fun wx hx => iB S wx HO.out) ?_
  intro v9 b1 hl1 hb1
  have hl := (Later.refl w8).drew.trans hl1
  replace L := hide (L.out.later hl)
  replace BS := hide (BS.out.later hl)
  replace BX := hide (BX.out.later hl)
  replace BY := hide (BY.out.later hl)
  have hv9 : ∃ a c, v9 = .slice a 18 c := by
    obtain ⟨_, a, c, e, _, _⟩ := hb1
    exact ⟨a, c, by rw [e, bytesL_length]⟩
  obtain ⟨a9, c9, rfl⟩ := hv9
  clear hl hl1 hb1
  have hc := fun r => (later_rg b1 r)
  have s0 := fun r => (BS.out.later (hc r)).cell 0
  have s1 := fun r => (BS.out.later (hc r)).cell 1
  have s2 := fun r => (BS.out.later (hc r)).cell 2
  have x0 := fun r => (BX.out.later (hc r)).cell 0
  have x1 := fun r => (BX.out.later (hc r)).cell 1
  have x2 := fun r => (BX.out.later (hc r)).cell 2
  have y0 := fun r => (BY.out.later (hc r)).cell 0
  have y1 := fun r => (BY.out.later (hc r)).cell 1
  have y2 := fun r => (BY.out.later (hc r)).cell 2
  have gl := fun r => (HB.out.later (L.out.trans (hc r))).strOf
  cases hpb : parseB l with
  | true =>
    have HY := hide (parse_yes hpb)
    have HPO := hide (parse_ok l)
    generalize parseS l = T at *
    iterate 16 (refine wpS_mild rfl (fun K hK => ?_); go_simp; refine hK _ ?_; clear hK K)
    clear hc s0 s1 s2 x0 x1 x2 y0 y1 y2 gl
    refine wpS_callL rfl (by kernel_rfl) 10 (Plain.of (by kernel_rfl)) [.tmp 58] _ rfl [sval T] rfl (fun v W => Bs W v (bytesL T)) (fun wx hx => iB T wx HPO.out) ?_
    intro v10 b2 hl hb2
    replace L := hide (L.out.later hl)
    rw [HY.out] at hb2
    have gs := fun r => (hb2.later (later_rg b2 r)).strOf
    clear hl hb2
    iterate 6 (refine wpS_mild rfl (fun K hK => ?_); go_simp; refine hK _ ?_; clear hK K)
    refine wpS_nil (fun wx hwx => ?_)
    have F := hide (L.out.trans hwx)
    clear gs hwx
    go_wp2
    go_ret
    refine ⟨?_, F.out⟩
    first | rfl | simp
  | false =>
    rw [parse_no hpb] at BY y0 y1 y2
    iterate 8 (refine wpS_mild rfl (fun K hK => ?_); go_simp; refine hK _ ?_; clear hK K)
    refine wpS_call rfl (by kernel_rfl) 12 (Plain.of (by kernel_rfl)) [.tmp 52] _ rfl [sval (0, 0, 0)] rfl (.bool true) (fun wx hx => iG (0, 0, 0) wx ⟨by simp, by simp, by simp⟩) ?_
    iterate 7 (refine wpS_mild rfl (fun K hK => ?_); go_simp; refine hK _ ?_; clear hK K)
    refine wpS_loud rfl (fun K hK wy hwy => ?_)
    go_simp
    refine hK _ _ ?_
    clear hK K
    replace L := hide (L.out.later hwy)
    clear hwy hc s0 s1 s2 x0 x1 x2 y0 y1 y2 gl
    iterate 6 (refine wpS_mild rfl (fun K hK => ?_); go_simp; refine hK _ ?_; clear hK K)
    refine wpS_nil (fun wx hwx => ?_)
    have F := hide (L.out.trans hwx)
    clear hwx
    go_wp2
    go_ret
    refine ⟨?_, F.out⟩
    first | rfl | simp
end Go.Proofs.Ytfefnkeognccpaa
