import Derived.Test.YtfakboehmcimpaaGreatMBC
import Derived.Test.YtfakboehmcimpaaGreatMAP
namespace Go.Proofs.YtfakboehmcimpaaGreat
open Go.ChangeShapes Go.WideShapes Go.ChangeAt Go.RowKit
set_option linter.unusedVariables false
set_option maxRecDepth 4000
set_option linter.unusedSimpArgs false
/-! The landed mode: Page. -/
theorem mp8_a (which : Int) : MPag 65 8 which true := by
  intro w
  have HL : Hid (mpL 8 which true = pg8 true) := by simp [Hid, mpL, vB, vU]
  go_enter Tryz.func65, Tryz.ntmps65
  go_wp2_with fail
  refine (cachingPage_c true _).mono ?_
  rintro e w1 ⟨g, rfl, hl, hg, hB⟩
  have Lg := hide hl
  have Gg := hide hg
  have Bg := hide hB
  clear hl hg hB
  go_wp2
  go_ret2
  exact ⟨_, rfl, Lg.out, by rw [HL.out]; exact bs_of_box Bg.out rfl rfl (by decide)⟩
theorem mp28_a (which : Int) : MPag 65 28 which true := by
  intro w
  have HL : Hid (mpL 28 which true = pg28) := rfl
  go_enter Tryz.func65, Tryz.ntmps65
  go_wp2_with fail
  refine (excPage_c _).mono ?_
  rintro e w1 ⟨g, rfl, hl, hg, hB⟩
  have Lg := hide hl
  have Gg := hide hg
  have Bg := hide hB
  clear hl hg hB
  go_wp2
  go_ret2
  exact ⟨_, rfl, Lg.out, by rw [HL.out]; exact bs_of_box Bg.out rfl rfl (by decide)⟩
theorem mpx_a (which : Int) (page : Int) (h1 : page ≠ 8) (h2 : page ≠ 28) (h3 : page ≠ 63) : MPag 65 page which true := by
  intro w
  have HL : Hid (mpL page which true = []) := by simp [Hid, mpL, h1, h2, h3]
  have HB : Hid (mpB page = false) := by simp [Hid, mpB, h1, h2, h3]
  go_enter Tryz.func65, Tryz.ntmps65
  go_wp2
  go_ret2
  rw [HL.out, HB.out]
  exact ⟨_, rfl, Later.refl _, Bs.nil _⟩
theorem mp63_a (which : Int) : MPag 65 63 which true := by
  intro w
  have HL : Hid (mpL 63 which true = pg8 true ++ pg28) := by simp [Hid, mpL, vB, vU]
  go_enter Tryz.func65, Tryz.ntmps65
  go_wp2_with fail
  refine (cachingPage_c true _).mono ?_
  rintro e w1 ⟨g, rfl, hl, hg, hB⟩
  have Lg := hide hl
  have Gg := hide hg
  have Bg := hide hB
  clear hl hg hB
  go_wp2_with fail
  refine (excPage_c _).mono ?_
  rintro e w2 ⟨h, rfl, hl, hg, hB⟩
  have Lh := hide hl
  have Gh := hide hg
  have Bh := hide hB
  clear hl hg hB
  replace Bg := hide (Bg.out.later Lh.out)
  replace Lg := hide (Lg.out.trans Lh.out)
  go_wp2_with (at_builtin; refine wpList_append_bs rfl (.tmp 29) (.tmp 30) rfl w.heap.size _ 20 (pg8 true) rfl (owns_box Bg.out rfl (by decide) Gg.out) _ pg28 rfl (bs_of_box Bh.out rfl rfl (by decide)) (by decide) Lg.out.size w Lg.out ?_)
  intro v3 w3 ho hb hg
  have V3 := hide (Bs.of_owns ho).1
  have L3 : Hid (Later w w3) := hb
  clear ho hb hg
  go_wp2
  go_ret2
  exact ⟨_, rfl, L3.out, by rw [HL.out]; exact V3.out⟩
theorem mp8_b (w0 : World) : MPag 65 8 1 false := by
  intro w
  have HL : Hid (mpL 8 1 false = pg8 true) := by simp [Hid, mpL, vB, vU]
  go_enter Tryz.func65, Tryz.ntmps65
  go_wp2_with fail
  refine (cachingPage_c true _).mono ?_
  rintro e w1 ⟨g, rfl, hl, hg, hB⟩
  have Lg := hide hl
  have Gg := hide hg
  have Bg := hide hB
  clear hl hg hB
  go_wp2
  go_ret2
  exact ⟨_, rfl, Lg.out, by rw [HL.out]; exact bs_of_box Bg.out rfl rfl (by decide)⟩
theorem mp28_b (w0 : World) : MPag 65 28 1 false := by
  intro w
  have HL : Hid (mpL 28 1 false = pg28) := rfl
  go_enter Tryz.func65, Tryz.ntmps65
  go_wp2_with fail
  refine (excPage_c _).mono ?_
  rintro e w1 ⟨g, rfl, hl, hg, hB⟩
  have Lg := hide hl
  have Gg := hide hg
  have Bg := hide hB
  clear hl hg hB
  go_wp2
  go_ret2
  exact ⟨_, rfl, Lg.out, by rw [HL.out]; exact bs_of_box Bg.out rfl rfl (by decide)⟩
theorem mpx_b (w0 : World) (page : Int) (h1 : page ≠ 8) (h2 : page ≠ 28) (h3 : page ≠ 63) : MPag 65 page 1 false := by
  intro w
  have HL : Hid (mpL page 1 false = []) := by simp [Hid, mpL, h1, h2, h3]
  have HB : Hid (mpB page = false) := by simp [Hid, mpB, h1, h2, h3]
  go_enter Tryz.func65, Tryz.ntmps65
  go_wp2
  go_ret2
  rw [HL.out, HB.out]
  exact ⟨_, rfl, Later.refl _, Bs.nil _⟩
theorem mp63_b (w0 : World) : MPag 65 63 1 false := by
  intro w
  have HL : Hid (mpL 63 1 false = pg8 true ++ pg28) := by simp [Hid, mpL, vB, vU]
  go_enter Tryz.func65, Tryz.ntmps65
  go_wp2_with fail
  refine (cachingPage_c true _).mono ?_
  rintro e w1 ⟨g, rfl, hl, hg, hB⟩
  have Lg := hide hl
  have Gg := hide hg
  have Bg := hide hB
  clear hl hg hB
  go_wp2_with fail
  refine (excPage_c _).mono ?_
  rintro e w2 ⟨h, rfl, hl, hg, hB⟩
  have Lh := hide hl
  have Gh := hide hg
  have Bh := hide hB
  clear hl hg hB
  replace Bg := hide (Bg.out.later Lh.out)
  replace Lg := hide (Lg.out.trans Lh.out)
  go_wp2_with (at_builtin; refine wpList_append_bs rfl (.tmp 29) (.tmp 30) rfl w.heap.size _ 20 (pg8 true) rfl (owns_box Bg.out rfl (by decide) Gg.out) _ pg28 rfl (bs_of_box Bh.out rfl rfl (by decide)) (by decide) Lg.out.size w Lg.out ?_)
  intro v3 w3 ho hb hg
  have V3 := hide (Bs.of_owns ho).1
  have L3 : Hid (Later w w3) := hb
  clear ho hb hg
  go_wp2
  go_ret2
  exact ⟨_, rfl, L3.out, by rw [HL.out]; exact V3.out⟩
theorem mp8_c (w0 : World) : MPag 65 8 2 false := by
  intro w
  have HL : Hid (mpL 8 2 false = pg8 true) := by simp [Hid, mpL, vB, vU]
  go_enter Tryz.func65, Tryz.ntmps65
  go_wp2_with fail
  refine (cachingPage_c true _).mono ?_
  rintro e w1 ⟨g, rfl, hl, hg, hB⟩
  have Lg := hide hl
  have Gg := hide hg
  have Bg := hide hB
  clear hl hg hB
  go_wp2
  go_ret2
  exact ⟨_, rfl, Lg.out, by rw [HL.out]; exact bs_of_box Bg.out rfl rfl (by decide)⟩
theorem mp28_c (w0 : World) : MPag 65 28 2 false := by
  intro w
  have HL : Hid (mpL 28 2 false = pg28) := rfl
  go_enter Tryz.func65, Tryz.ntmps65
  go_wp2_with fail
  refine (excPage_c _).mono ?_
  rintro e w1 ⟨g, rfl, hl, hg, hB⟩
  have Lg := hide hl
  have Gg := hide hg
  have Bg := hide hB
  clear hl hg hB
  go_wp2
  go_ret2
  exact ⟨_, rfl, Lg.out, by rw [HL.out]; exact bs_of_box Bg.out rfl rfl (by decide)⟩
theorem mpx_c (w0 : World) (page : Int) (h1 : page ≠ 8) (h2 : page ≠ 28) (h3 : page ≠ 63) : MPag 65 page 2 false := by
  intro w
  have HL : Hid (mpL page 2 false = []) := by simp [Hid, mpL, h1, h2, h3]
  have HB : Hid (mpB page = false) := by simp [Hid, mpB, h1, h2, h3]
  go_enter Tryz.func65, Tryz.ntmps65
  go_wp2
  go_ret2
  rw [HL.out, HB.out]
  exact ⟨_, rfl, Later.refl _, Bs.nil _⟩
theorem mp63_c (w0 : World) : MPag 65 63 2 false := by
  intro w
  have HL : Hid (mpL 63 2 false = pg8 true ++ pg28) := by simp [Hid, mpL, vB, vU]
  go_enter Tryz.func65, Tryz.ntmps65
  go_wp2_with fail
  refine (cachingPage_c true _).mono ?_
  rintro e w1 ⟨g, rfl, hl, hg, hB⟩
  have Lg := hide hl
  have Gg := hide hg
  have Bg := hide hB
  clear hl hg hB
  go_wp2_with fail
  refine (excPage_c _).mono ?_
  rintro e w2 ⟨h, rfl, hl, hg, hB⟩
  have Lh := hide hl
  have Gh := hide hg
  have Bh := hide hB
  clear hl hg hB
  replace Bg := hide (Bg.out.later Lh.out)
  replace Lg := hide (Lg.out.trans Lh.out)
  go_wp2_with (at_builtin; refine wpList_append_bs rfl (.tmp 29) (.tmp 30) rfl w.heap.size _ 20 (pg8 true) rfl (owns_box Bg.out rfl (by decide) Gg.out) _ pg28 rfl (bs_of_box Bh.out rfl rfl (by decide)) (by decide) Lg.out.size w Lg.out ?_)
  intro v3 w3 ho hb hg
  have V3 := hide (Bs.of_owns ho).1
  have L3 : Hid (Later w w3) := hb
  clear ho hb hg
  go_wp2
  go_ret2
  exact ⟨_, rfl, L3.out, by rw [HL.out]; exact V3.out⟩
theorem mp8_d (which : Int) (hw1 : (which == 1) = false) (hw2 : (which == 2) = false) : MPag 65 8 which false := by
  intro w
  have HL : Hid (mpL 8 which false = pg8 false) := by simp [Hid, mpL, vB, hw1, hw2]
  go_enter Tryz.func65, Tryz.ntmps65
  go_wp2_with fail
  refine (cachingPage_c false _).mono ?_
  rintro e w1 ⟨g, rfl, hl, hg, hB⟩
  have Lg := hide hl
  have Gg := hide hg
  have Bg := hide hB
  clear hl hg hB
  go_wp2
  go_ret2
  exact ⟨_, rfl, Lg.out, by rw [HL.out]; exact bs_of_box Bg.out rfl rfl (by decide)⟩
theorem mp28_d (which : Int) (hw1 : (which == 1) = false) (hw2 : (which == 2) = false) : MPag 65 28 which false := by
  intro w
  have HL : Hid (mpL 28 which false = pg28) := rfl
  go_enter Tryz.func65, Tryz.ntmps65
  go_wp2_with fail
  refine (excPage_c _).mono ?_
  rintro e w1 ⟨g, rfl, hl, hg, hB⟩
  have Lg := hide hl
  have Gg := hide hg
  have Bg := hide hB
  clear hl hg hB
  go_wp2
  go_ret2
  exact ⟨_, rfl, Lg.out, by rw [HL.out]; exact bs_of_box Bg.out rfl rfl (by decide)⟩
theorem mpx_d (which : Int) (hw1 : (which == 1) = false) (hw2 : (which == 2) = false) (page : Int) (h1 : page ≠ 8) (h2 : page ≠ 28) (h3 : page ≠ 63) : MPag 65 page which false := by
  intro w
  have HL : Hid (mpL page which false = []) := by simp [Hid, mpL, h1, h2, h3]
  have HB : Hid (mpB page = false) := by simp [Hid, mpB, h1, h2, h3]
  go_enter Tryz.func65, Tryz.ntmps65
  go_wp2
  go_ret2
  rw [HL.out, HB.out]
  exact ⟨_, rfl, Later.refl _, Bs.nil _⟩
theorem mp63_d (which : Int) (hw1 : (which == 1) = false) (hw2 : (which == 2) = false) : MPag 65 63 which false := by
  intro w
  have HL : Hid (mpL 63 which false = pg8 false ++ pg28) := by simp [Hid, mpL, vB, hw1, hw2]
  go_enter Tryz.func65, Tryz.ntmps65
  go_wp2_with fail
  refine (cachingPage_c false _).mono ?_
  rintro e w1 ⟨g, rfl, hl, hg, hB⟩
  have Lg := hide hl
  have Gg := hide hg
  have Bg := hide hB
  clear hl hg hB
  go_wp2_with fail
  refine (excPage_c _).mono ?_
  rintro e w2 ⟨h, rfl, hl, hg, hB⟩
  have Lh := hide hl
  have Gh := hide hg
  have Bh := hide hB
  clear hl hg hB
  replace Bg := hide (Bg.out.later Lh.out)
  replace Lg := hide (Lg.out.trans Lh.out)
  go_wp2_with (at_builtin; refine wpList_append_bs rfl (.tmp 29) (.tmp 30) rfl w.heap.size _ 20 (pg8 false) rfl (owns_box Bg.out rfl (by decide) Gg.out) _ pg28 rfl (bs_of_box Bh.out rfl rfl (by decide)) (by decide) Lg.out.size w Lg.out ?_)
  intro v3 w3 ho hb hg
  have V3 := hide (Bs.of_owns ho).1
  have L3 : Hid (Later w w3) := hb
  clear ho hb hg
  go_wp2
  go_ret2
  exact ⟨_, rfl, L3.out, by rw [HL.out]; exact V3.out⟩
theorem mpage_c : IPage8 := by
  intro page which caching _ _ w
  by_cases h1 : page = 8
  · subst h1
    cases caching with
    | true => exact mp8_a which w
    | false =>
      by_cases hw1 : which = 1
      · subst hw1; exact mp8_b w w
      by_cases hw2 : which = 2
      · subst hw2; exact mp8_c w w
      exact mp8_d which (by simp [hw1]) (by simp [hw2]) w
  by_cases h2 : page = 28
  · subst h2
    cases caching with
    | true => exact mp28_a which w
    | false =>
      by_cases hw1 : which = 1
      · subst hw1; exact mp28_b w w
      by_cases hw2 : which = 2
      · subst hw2; exact mp28_c w w
      exact mp28_d which (by simp [hw1]) (by simp [hw2]) w
  by_cases h3 : page = 63
  · subst h3
    cases caching with
    | true => exact mp63_a which w
    | false =>
      by_cases hw1 : which = 1
      · subst hw1; exact mp63_b w w
      by_cases hw2 : which = 2
      · subst hw2; exact mp63_c w w
      exact mp63_d which (by simp [hw1]) (by simp [hw2]) w
  cases caching with
  | true => exact mpx_a which page h1 h2 h3 w
  | false =>
    by_cases hw1 : which = 1
    · subst hw1; exact mpx_b w page h1 h2 h3 w
    by_cases hw2 : which = 2
    · subst hw2; exact mpx_c w page h1 h2 h3 w
    exact mpx_d which (by simp [hw1]) (by simp [hw2]) page h1 h2 h3 w
end Go.Proofs.YtfakboehmcimpaaGreat

namespace Go.Proofs.YtfakboehmcimpaaGreat
open Go.ChangeShapes Go.WideShapes Go.ChangeAt Go.RowKit
set_option linter.unusedVariables false
set_option maxRecDepth 4000
set_option linter.unusedSimpArgs false
/-! The landed mode: an answer's header. -/
theorem headerSize_c (ten : Bool) (w : World) : Calls Tryz.prog 103 #[.bool ten] w fun e w' => e = .returned (.tuple #[.int .i64 (if ten then 8 else 4), .int .i64 (if ten then 2 else 1)]) ∧ w' = w := by
  cases ten with
  | true =>
    go_enter Tryz.func103, Tryz.ntmps103
    go_wp2
    go_ret2
    exact ⟨rfl, rfl⟩
  | false =>
    go_enter Tryz.func103, Tryz.ntmps103
    go_wp2
    go_ret2
    exact ⟨rfl, rfl⟩
theorem pb8_2 : ∀ k : Nat, k < 33 → putBeI (6 + k) 2 = [0, UInt8.ofNat (k + 6)] := by decide
theorem pb8_1 : ∀ k : Nat, k < 33 → putBeI (3 + k) 1 = [UInt8.ofNat (k + 3)] := by decide
/-- bytes that are copied to the beginning of bytes of the call's own -/
theorem wpList_copyB {w : World} {ops : Array Oper} {rest : List Oper} {o : Oper} {a : Act} {Q : Exit → Act → World → Prop} (hgd : o.guard = none) (d s : Operand) (ho : o.op = .call { callee := .builtin .copy, args := #[d, s], argTypes := #[40, 40] })
    (g n : Nat) (hd : a.eval d = .slice (some ⟨g, 0, none⟩) n n) (u : Value) (N : List UInt8) (hx : a.eval s = u) (hr : Rw 1 w u N.length (bv N)) (hm : N.length ≤ n) (L : List UInt8) (hB : Box w g 5 (bv L)) (hL : L.length = n) (hn : n ≤ 100)
    (h : ∀ w', Box w' g 5 (bv (N ++ L.drop N.length)) → Hid (w' = w.setCells g 0 (bv N)) → wpList Tryz.prog ops Q rest (a.put o.dst (.int .i64 (N.length : Int))) w') : wpList Tryz.prog ops Q (o :: rest) a w := by
  refine wpList_plain hgd fun K hK => ?_
  have hrun := run_copy_rw (P := Tryz.prog) (w := w) (ty := o.type) (T' := 40) Tryz.underlying40 Tryz.info1_u8 (some ⟨g, 0, none⟩) n n hr (bv_one N) hm (owns_of_box hB hL hn) (off := 0) (by omega) (.inr rfl)
  have hb := hB.setCells (bv N) 0 (by simp [bv_length]; omega)
  have e : (bv L).take 0 ++ bv N ++ (bv L).drop (0 + (bv N).length) = bv (N ++ L.drop N.length) := by simp [bv_append, bv_length, bv, List.map_drop]
  rw [e] at hb
  unfold Go.Oper.wp
  simp [execOp, ho, resolve, invoke, builtin, hd, hx, hrun, Result.andThen]
  exact hK _ _ (h _ hb rfl)
set_option maxHeartbeats 1000000 in
theorem header_true_true (k : Nat) (hk : k ≤ 32) : MkP 66 #[.bool true, .int .i64 k, .bool true] 8 (mhead 90 k true) := by
  intro w
  have LL := hide (Later.refl w)
  go_enter Tryz.func66, Tryz.ntmps66
  go_wp2_with fail
  refine (headerSize_c true _).mono ?_
  rintro e w1 ⟨rfl, hw⟩
  have hw2 := hw.symm
  subst hw2
  clear hw
  go_wp2_with (refine wpList_makeB rfl (.tmp 15) (.tmp 15) rfl 8 rfl rfl (by decide) ?_)
  intro g w1 hB hl hg
  replace LL := hide (LL.out.trans hl)
  have BX := hide hB
  have HG : Hid (w.heap.size ≤ g) := by rw [Hid, hg.out]; exact Nat.le_refl _
  clear hl hg hB
  go_wp2_with fail
  have hq := putBig_c (6 + k) 2 w1 w1.heap.size (Nat.le_refl _) (by omega)
  rw [pb8_2 k (by omega), show ((6 + k : Nat) : Int) = 6 + (k : Int) from by omega] at hq
  obtain ⟨x, hx⟩ : ∃ x : UInt8, x = UInt8.ofNat (k + 6) := ⟨_, rfl⟩
  rw [← hx] at hq
  have HX := hide hx
  clear hx
  refine hq.mono ?_
  clear hq
  rintro e w2 ⟨v2, rfl, hl, ho⟩
  have L2 : Later w1 w2 := hl
  replace LL := hide (LL.out.trans L2)
  replace BX := hide (BX.out.later L2)
  have R2 := hide (Rw.of_owns ho)
  clear hl ho L2
  go_wp2_with (refine wpList_copyB rfl (.tmp 17) (.tmp 25) rfl g 8 rfl v2 ([0, x]) rfl R2.out (by simp) (List.replicate 8 0) BX.out (by simp) (by decide) ?_)
  intro w3 hB h3
  have B3 := hide hB
  have L3 : Hid (Later w w3) := by rw [h3.out]; exact LL.out.setCells HG.out _ _
  clear hB h3 LL BX R2
  go_wp2_with (refine wpList_storeB rfl 5 (.tmp 31) (.const (.int .u8 128)) rfl g (2 + 1) rfl 128 rfl Tryz.info_u8s 5 ([0, x] ++ (List.replicate 8 0).drop 2) B3.out (by simp) 128 rfl ?_)
  intro w4 hB h4
  have B4 : Hid (Box w4 g 5 (bv (mhead 90 k true))) := by
    have e : mhead 90 k true = ([0, x] ++ (List.replicate 8 0).drop 2).set (2 + 1) 128 := by rw [HX.out]; rfl
    rw [Hid, e]; exact hB
  have L4 : Hid (Later w w4) := by rw [h4.out]; exact L3.out.setCells HG.out _ _
  clear hB h4 B3 L3
  go_wp2
  go_ret
  exact ⟨g, rfl, L4.out, HG.out, B4.out⟩
set_option maxHeartbeats 1000000 in
theorem header_true_false (k : Nat) (hk : k ≤ 32) : MkP 66 #[.bool true, .int .i64 k, .bool false] 8 (mhead 90 k false) := by
  intro w
  have LL := hide (Later.refl w)
  go_enter Tryz.func66, Tryz.ntmps66
  go_wp2_with fail
  refine (headerSize_c true _).mono ?_
  rintro e w1 ⟨rfl, hw⟩
  have hw2 := hw.symm
  subst hw2
  clear hw
  go_wp2_with (refine wpList_makeB rfl (.tmp 15) (.tmp 15) rfl 8 rfl rfl (by decide) ?_)
  intro g w1 hB hl hg
  replace LL := hide (LL.out.trans hl)
  have BX := hide hB
  have HG : Hid (w.heap.size ≤ g) := by rw [Hid, hg.out]; exact Nat.le_refl _
  clear hl hg hB
  go_wp2_with fail
  have hq := putBig_c (6 + k) 2 w1 w1.heap.size (Nat.le_refl _) (by omega)
  rw [pb8_2 k (by omega), show ((6 + k : Nat) : Int) = 6 + (k : Int) from by omega] at hq
  obtain ⟨x, hx⟩ : ∃ x : UInt8, x = UInt8.ofNat (k + 6) := ⟨_, rfl⟩
  rw [← hx] at hq
  have HX := hide hx
  clear hx
  refine hq.mono ?_
  clear hq
  rintro e w2 ⟨v2, rfl, hl, ho⟩
  have L2 : Later w1 w2 := hl
  replace LL := hide (LL.out.trans L2)
  replace BX := hide (BX.out.later L2)
  have R2 := hide (Rw.of_owns ho)
  clear hl ho L2
  go_wp2_with (refine wpList_copyB rfl (.tmp 17) (.tmp 25) rfl g 8 rfl v2 ([0, x]) rfl R2.out (by simp) (List.replicate 8 0) BX.out (by simp) (by decide) ?_)
  intro w3 hB h3
  have B3 := hide hB
  have L3 : Hid (Later w w3) := by rw [h3.out]; exact LL.out.setCells HG.out _ _
  clear hB h3 LL BX R2
  have B4 : Hid (Box w3 g 5 (bv (mhead 90 k false))) := by
    have e : mhead 90 k false = [0, x] ++ (List.replicate 8 0).drop 2 := by rw [HX.out]; rfl
    rw [Hid, e]; exact B3.out
  clear B3
  go_wp2
  go_ret
  exact ⟨g, rfl, L3.out, HG.out, B4.out⟩
set_option maxHeartbeats 1000000 in
theorem header_false_true (k : Nat) (hk : k ≤ 32) : MkP 66 #[.bool false, .int .i64 k, .bool true] 4 (mhead 26 k true) := by
  intro w
  have LL := hide (Later.refl w)
  go_enter Tryz.func66, Tryz.ntmps66
  go_wp2_with fail
  refine (headerSize_c false _).mono ?_
  rintro e w1 ⟨rfl, hw⟩
  have hw2 := hw.symm
  subst hw2
  clear hw
  go_wp2_with (refine wpList_makeB rfl (.tmp 15) (.tmp 15) rfl 4 rfl rfl (by decide) ?_)
  intro g w1 hB hl hg
  replace LL := hide (LL.out.trans hl)
  have BX := hide hB
  have HG : Hid (w.heap.size ≤ g) := by rw [Hid, hg.out]; exact Nat.le_refl _
  clear hl hg hB
  go_wp2_with fail
  have hq := putBig_c (3 + k) 1 w1 w1.heap.size (Nat.le_refl _) (by omega)
  rw [pb8_1 k (by omega), show ((3 + k : Nat) : Int) = 3 + (k : Int) from by omega] at hq
  obtain ⟨x, hx⟩ : ∃ x : UInt8, x = UInt8.ofNat (k + 3) := ⟨_, rfl⟩
  rw [← hx] at hq
  have HX := hide hx
  clear hx
  refine hq.mono ?_
  clear hq
  rintro e w2 ⟨v2, rfl, hl, ho⟩
  have L2 : Later w1 w2 := hl
  replace LL := hide (LL.out.trans L2)
  replace BX := hide (BX.out.later L2)
  have R2 := hide (Rw.of_owns ho)
  clear hl ho L2
  go_wp2_with (refine wpList_copyB rfl (.tmp 17) (.tmp 25) rfl g 4 rfl v2 ([x]) rfl R2.out (by simp) (List.replicate 4 0) BX.out (by simp) (by decide) ?_)
  intro w3 hB h3
  have B3 := hide hB
  have L3 : Hid (Later w w3) := by rw [h3.out]; exact LL.out.setCells HG.out _ _
  clear hB h3 LL BX R2
  go_wp2_with (refine wpList_storeB rfl 5 (.tmp 31) (.const (.int .u8 128)) rfl g (1 + 1) rfl 128 rfl Tryz.info_u8s 5 ([x] ++ (List.replicate 4 0).drop 1) B3.out (by simp) 128 rfl ?_)
  intro w4 hB h4
  have B4 : Hid (Box w4 g 5 (bv (mhead 26 k true))) := by
    have e : mhead 26 k true = ([x] ++ (List.replicate 4 0).drop 1).set (1 + 1) 128 := by rw [HX.out]; rfl
    rw [Hid, e]; exact hB
  have L4 : Hid (Later w w4) := by rw [h4.out]; exact L3.out.setCells HG.out _ _
  clear hB h4 B3 L3
  go_wp2
  go_ret
  exact ⟨g, rfl, L4.out, HG.out, B4.out⟩
set_option maxHeartbeats 1000000 in
theorem header_false_false (k : Nat) (hk : k ≤ 32) : MkP 66 #[.bool false, .int .i64 k, .bool false] 4 (mhead 26 k false) := by
  intro w
  have LL := hide (Later.refl w)
  go_enter Tryz.func66, Tryz.ntmps66
  go_wp2_with fail
  refine (headerSize_c false _).mono ?_
  rintro e w1 ⟨rfl, hw⟩
  have hw2 := hw.symm
  subst hw2
  clear hw
  go_wp2_with (refine wpList_makeB rfl (.tmp 15) (.tmp 15) rfl 4 rfl rfl (by decide) ?_)
  intro g w1 hB hl hg
  replace LL := hide (LL.out.trans hl)
  have BX := hide hB
  have HG : Hid (w.heap.size ≤ g) := by rw [Hid, hg.out]; exact Nat.le_refl _
  clear hl hg hB
  go_wp2_with fail
  have hq := putBig_c (3 + k) 1 w1 w1.heap.size (Nat.le_refl _) (by omega)
  rw [pb8_1 k (by omega), show ((3 + k : Nat) : Int) = 3 + (k : Int) from by omega] at hq
  obtain ⟨x, hx⟩ : ∃ x : UInt8, x = UInt8.ofNat (k + 3) := ⟨_, rfl⟩
  rw [← hx] at hq
  have HX := hide hx
  clear hx
  refine hq.mono ?_
  clear hq
  rintro e w2 ⟨v2, rfl, hl, ho⟩
  have L2 : Later w1 w2 := hl
  replace LL := hide (LL.out.trans L2)
  replace BX := hide (BX.out.later L2)
  have R2 := hide (Rw.of_owns ho)
  clear hl ho L2
  go_wp2_with (refine wpList_copyB rfl (.tmp 17) (.tmp 25) rfl g 4 rfl v2 ([x]) rfl R2.out (by simp) (List.replicate 4 0) BX.out (by simp) (by decide) ?_)
  intro w3 hB h3
  have B3 := hide hB
  have L3 : Hid (Later w w3) := by rw [h3.out]; exact LL.out.setCells HG.out _ _
  clear hB h3 LL BX R2
  have B4 : Hid (Box w3 g 5 (bv (mhead 26 k false))) := by
    have e : mhead 26 k false = [x] ++ (List.replicate 4 0).drop 1 := by rw [HX.out]; rfl
    rw [Hid, e]; exact B3.out
  clear B3
  go_wp2
  go_ret
  exact ⟨g, rfl, L3.out, HG.out, B4.out⟩
end Go.Proofs.YtfakboehmcimpaaGreat
