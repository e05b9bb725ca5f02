import Derived.Test.YtbcikndebaeahaaMAZ
namespace Go.Proofs.Ytbcikndebaeahaa
open Go.ChangeShapes Go.WideShapes Go.ChangeAt Go.RowKit
set_option linter.unusedVariables false
set_option maxRecDepth 4000
set_option linter.unusedSimpArgs false
/-! The landed job: work, at a block that is whole. -/
/-- what stands in memory while one works at a job; B: all younger than w1 is one's own -/
def WkA (w1 : World) (g : Nat) (ab : Option Addr) (n cb : Nat) (aD : Option Addr) (k cD : Nat) (p r l cc : Bool) (am : Option Addr) (m cm : Nat) (s : Sns) (c : Cmd) (len took : Int) (ar : Option Addr) (kr cr : Nat) (S : Sns) (F : List UInt8) (D : List Drt) (M : List Sns) (R : List UInt8) (W : World) : Prop :=
  Later w1 W ∧ Box W g 65 (wc ab n cb aD k cD p r l cc am m cm s c len took ar kr cr S) ∧ Med W (.agg #[.slice ab n cb, .slice aD k cD]) n F D ∧
  W.ownsRow w1.heap.size 30 3 (.slice am m cm) m (sv M) ∧ W.ownsRow w1.heap.size 5 1 (.slice ar kr cr) kr (bv R) ∧ (∀ b, (Value.slice ar kr cr).ownBlock = some b → OffS b (.slice ab n cb) ∧ OffS b (.slice aD k cD))
theorem results_none {fn : Func} (h : fn.results = #[]) (tmps : Array Value) (P : Program) (w : World) : (results fn tmps).run P w = .ok (.tuple #[]) w := by
  simp [results, h]
section
variable {w1 : World} {g : Nat} {ab : Option Addr} {n cb : Nat} {aD : Option Addr} {k cD : Nat} {p r l cc : Bool} {am : Option Addr} {m cm : Nat} {s : Sns} {c : Cmd} {len took : Int} {ar : Option Addr} {kr cr : Nat} {S : Sns} {F : List UInt8} {D : List Drt} {M : List Sns} {R : List UInt8} {W : World}
theorem WkA.later {W' : World} (h : WkA w1 g ab n cb aD k cD p r l cc am m cm s c len took ar kr cr S F D M R W) (hl : Later W W') : WkA w1 g ab n cb aD k cD p r l cc am m cm s c len took ar kr cr S F D M R W' :=
  ⟨h.1.trans hl, h.2.1.later hl, h.2.2.1.later hl, owns_later h.2.2.2.1 hl, owns_later h.2.2.2.2.1 hl, h.2.2.2.2.2⟩
theorem WkA.slot (h : WkA w1 g ab n cb aD k cD p r l cc am m cm s c len took ar kr cr S F D M R W) (hg : w1.heap.size ≤ g) (x1 : Option Addr) (y1 : Nat) (x2 : Option Addr) (k2 y2 : Nat) (F2 : List UInt8) (D2 : List Drt)
    (hM : Med W (.agg #[.slice x1 n y1, .slice x2 k2 y2]) n F2 D2) (hO : ∀ b, (Value.slice ar kr cr).ownBlock = some b → OffS b (.slice x1 n y1) ∧ OffS b (.slice x2 k2 y2)) :
    WkA w1 g x1 n y1 x2 k2 y2 p r l cc am m cm s c len took ar kr cr S F2 D2 M R (W.setCells g 0 (tc (.slice x1 n y1) (.slice x2 k2 y2) p r l)) :=
  ⟨h.1.setCells hg _ _, h.2.1.setCells (tc (.slice x1 n y1) (.slice x2 k2 y2) p r l) 0 (by simp), hM.setNoB h.2.1 (wc_nob _ _ _ _ _ _ _ _ _ _ _ _ _ _ _ _ _ _ _ _ _) _ _, owns_setBox10 h.2.2.2.1 h.2.1 (by decide) _ _, owns_setBox10 h.2.2.2.2.1 h.2.1 (by decide) _ _, hO⟩
theorem WkA.bad (h : WkA w1 g ab n cb aD k cD p r l cc am m cm s c len took ar kr cr S F D M R W) (hg : w1.heap.size ≤ g) (S' : Sns) :
    WkA w1 g ab n cb aD k cD p r l cc am m cm s c len took ar kr cr S' F D M R (W.setCells g 18 (sc S')) :=
  ⟨h.1.setCells hg _ _, h.2.1.setCells (sc S') 18 (by simp), h.2.2.1.setNoB h.2.1 (wc_nob _ _ _ _ _ _ _ _ _ _ _ _ _ _ _ _ _ _ _ _ _) _ _, owns_setBox10 h.2.2.2.1 h.2.1 (by decide) _ _, owns_setBox10 h.2.2.2.2.1 h.2.1 (by decide) _ _, h.2.2.2.2.2⟩
theorem WkA.setTook (h : WkA w1 g ab n cb aD k cD p r l cc am m cm s c len took ar kr cr S F D M R W) (hg : w1.heap.size ≤ g) (t : Int) :
    WkA w1 g ab n cb aD k cD p r l cc am m cm s c len t ar kr cr S F D M R (W.setCells g 16 [.int .i64 t]) :=
  ⟨h.1.setCells hg _ _, h.2.1.setCells [.int .i64 t] 16 (by simp), h.2.2.1.setNoB h.2.1 (wc_nob _ _ _ _ _ _ _ _ _ _ _ _ _ _ _ _ _ _ _ _ _) _ _, owns_setBox10 h.2.2.2.1 h.2.1 (by decide) _ _, owns_setBox10 h.2.2.2.2.1 h.2.1 (by decide) _ _, h.2.2.2.2.2⟩
theorem WkA.cache (h : WkA w1 g ab n cb aD k cD p r l cc am m cm s c len took ar kr cr S F D M R W) (hg : w1.heap.size ≤ g) (on : Bool) :
    WkA w1 g ab n cb aD k cD p r l on am m cm s c len took ar kr cr S F D M R (W.setCells g 5 [.bool on]) :=
  ⟨h.1.setCells hg _ _, h.2.1.setCells [.bool on] 5 (by simp), h.2.2.1.setNoB h.2.1 (wc_nob _ _ _ _ _ _ _ _ _ _ _ _ _ _ _ _ _ _ _ _ _) _ _, owns_setBox10 h.2.2.2.1 h.2.1 (by decide) _ _, owns_setBox10 h.2.2.2.2.1 h.2.1 (by decide) _ _, h.2.2.2.2.2⟩
theorem WkA.rest (h : WkA w1 g ab n cb aD k cD p r l cc am m cm s c len took ar kr cr S F D M R W) (hg : w1.heap.size ≤ g) (ar' : Option Addr) (kr' cr' : Nat) (R' : List UInt8)
    (hR : W.ownsRow w1.heap.size 5 1 (.slice ar' kr' cr') kr' (bv R')) (hO : ∀ b, (Value.slice ar' kr' cr').ownBlock = some b → OffS b (.slice ab n cb) ∧ OffS b (.slice aD k cD)) :
    WkA w1 g ab n cb aD k cD p r l cc am m cm s c len took ar' kr' cr' S F D M R' (W.setCells g 17 [.slice ar' kr' cr']) :=
  ⟨h.1.setCells hg _ _, h.2.1.setCells [.slice ar' kr' cr'] 17 (by simp), h.2.2.1.setNoB h.2.1 (wc_nob _ _ _ _ _ _ _ _ _ _ _ _ _ _ _ _ _ _ _ _ _) _ _, owns_setBox10 h.2.2.2.1 h.2.1 (by decide) _ _, owns_setBox10 hR h.2.1 (by decide) _ _, hO⟩
set_option maxRecDepth 20000 in
set_option maxHeartbeats 8000000 in
theorem work_c (hg : w1.heap.size ≤ g) (hW : WkA w1 g ab n cb aD k cD p r l cc am m cm s c len took ar kr cr S F D M R W) (X : List UInt8) (hX : X.length = 64) (i : Nat) (hi : took / 64 = (i : Int) + 1) (h0 : 0 ≤ took) (h1 : In64 took) (hc : OkC7 c) (hS : OkS S) (hn : n ≤ 100) (hD : D.length ≤ 100) (hcl : classI c.1 = 2 ∨ classI c.1 = 3) :
    Calls Try.prog 46 #[.pointer (some ⟨g, 0, none⟩), .agg (bv X).toArray] W fun e w' => ∃ v ab' cb' aD' k' cD', e = .returned v ∧ WkA w1 g ab' n cb' aD' k' cD' p r l cc am m cm s c len took ar kr cr (blkS n F D p r cc c S i X) (blkF n F D p r cc c S i X) (blkD n F D p r cc c S i X) M R w' := by
  have HG := hide hg
  have HX := hide hX
  have HC := hide hc
  have HS := hide hS
  have HN := hide (And.intro hn hD)
  have H1 := hide (And.intro hi (And.intro h0 h1))
  have H2 : Hid (i ≤ 9223372036854775807) := by unfold In64 at h1; rw [Hid]; omega
  have HW := hide (hW.later ((Later.refl W).alloc (.cells (bv X).toArray 58)))
  have BX := hide (Box.new W 58 (bv X).toArray)
  clear hg hW hX hi h0 h1 hc hS hn hD
  have s0 := HW.out.2.1.cell 18
  have s1 := HW.out.2.1.cell 19
  have s2 := HW.out.2.1.cell 20
  go_enter Try.func46, Try.ntmps46
  go_wp2_with fail
  generalize W.alloc (.cells (bv X).toArray 58) = w2 at *
  obtain ⟨gx, hgx⟩ : ∃ gx, gx = W.heap.size := ⟨_, rfl⟩
  rw [← hgx] at BX ⊢
  clear hgx
  refine (sgood_c S _ HS.out).mono ?_
  rintro e w3 ⟨rfl, hl⟩
  replace HW := hide (HW.out.later hl)
  replace BX := hide (BX.out.later hl)
  clear hl s0 s1 s2
  by_cases hz : S = (0, 0, 0)
  case neg =>
    have ez : (S == (0, 0, 0)) = false := by simpa using hz
    have E1 : Hid (blkF n F D p r cc c S i X = F) := by rw [Hid, blkF, if_pos (.inl hz)]
    have E2 : Hid (blkD n F D p r cc c S i X = D) := by rw [Hid, blkD, if_pos (.inl hz)]
    have E3 : Hid (blkS n F D p r cc c S i X = S) := by rw [Hid, blkS, if_pos hz]
    rw [ez]
    clear hz ez
    go_wp2
    refine bodyPost_ret (results_none rfl _ _ _) rfl ⟨_, ab, cb, aD, k, cD, rfl, ?_⟩
    exact (by rw [E1.out, E2.out, E3.out]; exact HW.out)
  have ez : (S == (0, 0, 0)) = true := by simp [hz]
  rw [ez]
  clear ez
  subst hz
  have x10 := HW.out.2.1.cell 10
  go_wp2_with fail
  refine (class_c _ _).mono ?_
  rintro e w4 ⟨rfl, hw⟩
  have hw2 := hw.symm
  subst hw2
  clear hw x10
  by_cases hk : classI c.1 = 2
  · have ek : (classI c.1 == 2) = true := by simp [hk]
    rw [hk]
    have EF0 : Hid (blkF n F D p r cc c (0, 0, 0) i X = ptF n F D (putS n D p r (atJ c.2.1 i)) (atJ c.2.1 i) X (thJ c cc)) := by rw [Hid, blkF, if_neg (by simp [hk])]
    have ED0 : Hid (blkD n F D p r cc c (0, 0, 0) i X = ptD n D (putS n D p r (atJ c.2.1 i)) (atJ c.2.1 i) X (thJ c cc)) := by rw [Hid, blkD, if_neg (by simp [hk])]
    have ES0 : Hid (blkS n F D p r cc c (0, 0, 0) i X = putS n D p r (atJ c.2.1 i)) := by rw [Hid, blkS, if_neg (by simp), if_neg (by rw [hk]; decide)]
    clear hk ek hcl
    by_cases hb5 : c.2.2.2.2 = 1
    · have e5 : (c.2.2.2.2 == 1) = true := by simp [hb5]
      have ET : Hid (thJ c cc = true) := by rw [Hid, thJ, e5]; rfl
      clear hb5
      go_upto_region 3 with fail
      have hc := fun q => ((Later.refl w3).drew.trans (later_rg w3.drew q))
      have x_0 := fun q => (HW.out.2.1.later (hc q)).cell 0
      have x_1 := fun q => (HW.out.2.1.later (hc q)).cell 1
      have x_2 := fun q => (HW.out.2.1.later (hc q)).cell 2
      have x_3 := fun q => (HW.out.2.1.later (hc q)).cell 3
      have x_4 := fun q => (HW.out.2.1.later (hc q)).cell 4
      have x_5 := fun q => (HW.out.2.1.later (hc q)).cell 5
      have x_14 := fun q => (HW.out.2.1.later (hc q)).cell 14
      have hwd := (Later.refl w3).drew
      go_wp2_with fail
      haveI : Nonempty (Held topI) := ⟨⟨w3, trivial⟩⟩
      refine wp_region_mix [0, 1] [2, 3, 4, 5, 6, 7, 8, 9, 10, 11, 12, 13, 14, 15, 16, 17, 18, 19, 20, 21, 22, 23, 24, 25] 26 [(26, true), (27, false), (28, false), (29, false), (30, false), (31, false), (32, false), (33, true), (34, false), (35, false), (36, false), (37, true)] (by kernel_rfl) (by kernel_rfl) (by kernel_rfl) (by kernel_rfl) (by kernel_rfl) (by kernel_rfl) ?_
      iterate 2 (refine wpA_mild rfl (fun K hK => ?_); go_simp; refine hK _ ?_; clear hK K)
      refine wpA_nil ?_
      iterate 6 (refine wpB_mild rfl (fun K hK => ?_); go_simp; refine hK _ ?_; clear hK K)
      refine wpB_call rfl (by kernel_rfl) 55 (Plain.of (by kernel_rfl)) [.tmp 27] _ rfl [.pointer (some ⟨g, 0, none⟩)] rfl (.int .u64 (placeN c.2.1 i : Int)) (fun wx hx => ?_) ?_
      · refine (place_c wx (HW.out.2.1.later (hwd.trans hx)) i H1.out.1 H1.out.2.1 H1.out.2.2 HC.out.2.1).mono ?_
        rintro e w' ⟨rfl, rfl⟩
        exact ⟨rfl, Later.refl _⟩
      iterate 1 (refine wpB_mild rfl (fun K hK => ?_); go_simp; refine hK _ ?_; clear hK K)
      refine wpB_loadG rfl (by kernel_rfl) 58 (.tmp 3) rfl gx 0 rfl (bv X) _ ((World.rangeAt_drew _ _ _ _).2 BX.out.range) Try.underlying58 rfl (by rw [Try.info_block, bv_length, HX.out]) ?_
      iterate 15 (refine wpB_mild rfl (fun K hK => ?_); go_simp; refine hK _ ?_; clear hK K)
      clear x_0 x_1 x_2 x_3 x_4 x_5 x_14 hc
      refine wpB_nil (fun wb hwb => ?_)
      have hl := hwd.trans hwb
      replace HW := hide (HW.out.later hl)
      clear hl hwb hwd BX
      obtain ⟨g0, hg0, hgb⟩ : ∃ g0, g0 < wb.heap.size ∧ ∀ b, (Value.slice ar kr cr).ownBlock = some b → b = g0 := by
        cases hob : (Value.slice ar kr cr).ownBlock with
        | none => exact ⟨g, HW.out.2.1.lt, fun b hb => by cases hb⟩
        | some b => exact ⟨b, (HW.out.2.2.2.2.1.lt b hob).2, fun b' hb' => by cases hb'; rfl⟩
      have HGB := hide hgb
      have HG0 := hide hg0
      clear hgb hg0
      have HP := hide (put_place (n := n) (F := F) (D := D) (p := p) (r := r) (th := thJ c cc) (a := c.2.1) (i := i) (X := X) HC.out.2.1 H2.out)
      have HI := hide (plI_in c.2.1 i)
      rw [show IntKind.i64.wrap (placeN c.2.1 i : Int) = plI c.2.1 i from rfl]
      generalize plI c.2.1 i = A at *
      rw [← HP.out.2.1] at EF0
      rw [← HP.out.2.2] at ED0
      rw [← HP.out.1] at ES0
      refine wpJ_callQ rfl (by kernel_rfl) 54 (Plain.of (by kernel_rfl)) [.tmp 26, .tmp 29, .tmp 30, .tmp 45] _ rfl [.agg #[.slice ab n cb, .slice aD k cD, .bool p, .bool r, .bool l], .int .i64 A, .agg (bv X).toArray, .bool true] rfl
        (fun v W' => ∃ x1 y1 x2 k2 y2, v = .tuple #[slv x1 n y1 x2 k2 y2 p r l, sval (putS n D p r A)] ∧ Med W' (.agg #[.slice x1 n y1, .slice x2 k2 y2]) n (ptF n F D (putS n D p r A) A X (thJ c cc)) (ptD n D (putS n D p r A) A X (thJ c cc)) ∧ OffS g0 (.slice x1 n y1) ∧ OffS g0 (.slice x2 k2 y2)) (fun W' hW' => ?_) ?_
      · refine (sput2_c g0 (v := .agg #[.slice ab n cb, .slice aD k cD, .bool p, .bool r, .bool l]) (n := n) (F := F) (D := D) (p := p) (r := r) (l := l) (at_ := A) (X := X) (th := true) W' (by have := hW'.size; have := HG0.out; omega) ⟨ab, cb, aD, k, cD, rfl, HW.out.2.2.1.later hW'⟩ HX.out HI.out.1 HI.out.2 (by have := HN.out.1; omega) (by have := HN.out.2; omega)).mono ?_
        rintro e w' ⟨v', rfl, hl, hs, ho⟩
        obtain ⟨x1, y1, x2, k2, y2, rfl, hm⟩ := hs
        obtain ⟨q1, q2, q3, q4, q5, e, o1, o2⟩ := ho
        simp at e
        obtain ⟨rfl, rfl, -⟩ := e
        rw [show true = thJ c cc from by rw [ET.out]] at hm
        exact ⟨_, rfl, hl, x1, y1, x2, k2, y2, rfl, hm, o1, o2⟩
      rintro v w4 hl ⟨x1, y1, x2, k2, y2, rfl, hm, o1, o2⟩
      replace HW := hide (HW.out.later hl)
      have HM := hide hm
      have HO : Hid (∀ b, (Value.slice ar kr cr).ownBlock = some b → OffS b (.slice x1 n y1) ∧ OffS b (.slice x2 k2 y2)) := fun b hb => by rw [HGB.out b hb]; exact ⟨o1, o2⟩
      clear hl hm o1 o2 HGB HG0 HP HI
      generalize ptF n F D (putS n D p r A) A X (thJ c cc) = F2 at *
      generalize ptD n D (putS n D p r A) A X (thJ c cc) = D2 at *
      generalize putS n D p r A = S2 at *
      iterate 6 (refine wpJ_mild rfl (fun K hK => ?_); go_simp; refine hK _ ?_; clear hK K)
      refine wpJ_storeO rfl rfl 27 (.tmp 51) (.tmp 47) rfl g 0 (tc (.slice x1 n y1) (.slice x2 k2 y2) p r l) rfl rfl Try.info_slot (tc_one _ _ _ _ _ _ _ _ _) _ _ HW.out.2.1 (by simp) (fun W hW => trivial) ?_
      intro wl hl wz hz
      have HA := (HW.out.later hl).slot HG.out x1 y1 x2 k2 y2 F2 D2 (HM.out.later hl) HO.out
      rw [← hz.out] at HA
      replace HW := hide HA
      clear HA hz hl HM HO
      iterate 3 (refine wpJ_mild rfl (fun K hK => ?_); go_simp; refine hK _ ?_; clear hK K)
      refine wpJ_storeO rfl rfl 30 (.tmp 54) (.tmp 48) rfl g 18 (sc S2) rfl rfl Try.info_sense (sc_one _) _ _ HW.out.2.1 (by simp) (fun W hW => trivial) ?_
      intro wl hl wy hy
      have HA := (HW.out.later hl).bad HG.out S2
      rw [← hy.out] at HA
      replace HW := hide HA
      clear HA hy hl
      refine wpJ_nil (fun wn hn => ?_)
      replace HW := hide (HW.out.later hn)
      clear hn
      go_wp2
      refine bodyPost_ret (results_none rfl _ _ _) rfl ⟨_, x1, y1, x2, k2, y2, rfl, ?_⟩
      rw [ES0.out, EF0.out, ED0.out]
      exact HW.out
    · have e5 : (c.2.2.2.2 == 1) = false := by simp [hb5]
      have ET : Hid (thJ c cc = !cc) := by rw [Hid, thJ, e5]; rfl
      clear hb5
      go_upto_region 3 with fail
      have hc := fun q => ((Later.refl w3).drew.trans (later_rg w3.drew q))
      have x_0 := fun q => (HW.out.2.1.later (hc q)).cell 0
      have x_1 := fun q => (HW.out.2.1.later (hc q)).cell 1
      have x_2 := fun q => (HW.out.2.1.later (hc q)).cell 2
      have x_3 := fun q => (HW.out.2.1.later (hc q)).cell 3
      have x_4 := fun q => (HW.out.2.1.later (hc q)).cell 4
      have x_5 := fun q => (HW.out.2.1.later (hc q)).cell 5
      have x_14 := fun q => (HW.out.2.1.later (hc q)).cell 14
      have hwd := (Later.refl w3).drew
      go_wp2_with fail
      haveI : Nonempty (Held topI) := ⟨⟨w3, trivial⟩⟩
      refine wp_region_mix [0, 1] [2, 3, 4, 5, 6, 7, 8, 9, 10, 11, 12, 13, 14, 15, 16, 17, 18, 19, 20, 21, 22, 23, 24, 25] 26 [(26, true), (27, false), (28, false), (29, false), (30, false), (31, false), (32, false), (33, true), (34, false), (35, false), (36, false), (37, true)] (by kernel_rfl) (by kernel_rfl) (by kernel_rfl) (by kernel_rfl) (by kernel_rfl) (by kernel_rfl) ?_
      iterate 2 (refine wpA_mild rfl (fun K hK => ?_); go_simp; refine hK _ ?_; clear hK K)
      refine wpA_nil ?_
      iterate 6 (refine wpB_mild rfl (fun K hK => ?_); go_simp; refine hK _ ?_; clear hK K)
      refine wpB_call rfl (by kernel_rfl) 55 (Plain.of (by kernel_rfl)) [.tmp 27] _ rfl [.pointer (some ⟨g, 0, none⟩)] rfl (.int .u64 (placeN c.2.1 i : Int)) (fun wx hx => ?_) ?_
      · refine (place_c wx (HW.out.2.1.later (hwd.trans hx)) i H1.out.1 H1.out.2.1 H1.out.2.2 HC.out.2.1).mono ?_
        rintro e w' ⟨rfl, rfl⟩
        exact ⟨rfl, Later.refl _⟩
      iterate 1 (refine wpB_mild rfl (fun K hK => ?_); go_simp; refine hK _ ?_; clear hK K)
      refine wpB_loadG rfl (by kernel_rfl) 58 (.tmp 3) rfl gx 0 rfl (bv X) _ ((World.rangeAt_drew _ _ _ _).2 BX.out.range) Try.underlying58 rfl (by rw [Try.info_block, bv_length, HX.out]) ?_
      iterate 15 (refine wpB_mild rfl (fun K hK => ?_); go_simp; refine hK _ ?_; clear hK K)
      clear x_0 x_1 x_2 x_3 x_4 x_5 x_14 hc
      refine wpB_nil (fun wb hwb => ?_)
      have hl := hwd.trans hwb
      replace HW := hide (HW.out.later hl)
      clear hl hwb hwd BX
      obtain ⟨g0, hg0, hgb⟩ : ∃ g0, g0 < wb.heap.size ∧ ∀ b, (Value.slice ar kr cr).ownBlock = some b → b = g0 := by
        cases hob : (Value.slice ar kr cr).ownBlock with
        | none => exact ⟨g, HW.out.2.1.lt, fun b hb => by cases hb⟩
        | some b => exact ⟨b, (HW.out.2.2.2.2.1.lt b hob).2, fun b' hb' => by cases hb'; rfl⟩
      have HGB := hide hgb
      have HG0 := hide hg0
      clear hgb hg0
      have HP := hide (put_place (n := n) (F := F) (D := D) (p := p) (r := r) (th := thJ c cc) (a := c.2.1) (i := i) (X := X) HC.out.2.1 H2.out)
      have HI := hide (plI_in c.2.1 i)
      rw [show IntKind.i64.wrap (placeN c.2.1 i : Int) = plI c.2.1 i from rfl]
      generalize plI c.2.1 i = A at *
      rw [← HP.out.2.1] at EF0
      rw [← HP.out.2.2] at ED0
      rw [← HP.out.1] at ES0
      refine wpJ_callQ rfl (by kernel_rfl) 54 (Plain.of (by kernel_rfl)) [.tmp 26, .tmp 29, .tmp 30, .tmp 45] _ rfl [.agg #[.slice ab n cb, .slice aD k cD, .bool p, .bool r, .bool l], .int .i64 A, .agg (bv X).toArray, .bool (!cc)] rfl
        (fun v W' => ∃ x1 y1 x2 k2 y2, v = .tuple #[slv x1 n y1 x2 k2 y2 p r l, sval (putS n D p r A)] ∧ Med W' (.agg #[.slice x1 n y1, .slice x2 k2 y2]) n (ptF n F D (putS n D p r A) A X (thJ c cc)) (ptD n D (putS n D p r A) A X (thJ c cc)) ∧ OffS g0 (.slice x1 n y1) ∧ OffS g0 (.slice x2 k2 y2)) (fun W' hW' => ?_) ?_
      · refine (sput2_c g0 (v := .agg #[.slice ab n cb, .slice aD k cD, .bool p, .bool r, .bool l]) (n := n) (F := F) (D := D) (p := p) (r := r) (l := l) (at_ := A) (X := X) (th := (!cc)) W' (by have := hW'.size; have := HG0.out; omega) ⟨ab, cb, aD, k, cD, rfl, HW.out.2.2.1.later hW'⟩ HX.out HI.out.1 HI.out.2 (by have := HN.out.1; omega) (by have := HN.out.2; omega)).mono ?_
        rintro e w' ⟨v', rfl, hl, hs, ho⟩
        obtain ⟨x1, y1, x2, k2, y2, rfl, hm⟩ := hs
        obtain ⟨q1, q2, q3, q4, q5, e, o1, o2⟩ := ho
        simp at e
        obtain ⟨rfl, rfl, -⟩ := e
        rw [show (!cc) = thJ c cc from by rw [ET.out]] at hm
        exact ⟨_, rfl, hl, x1, y1, x2, k2, y2, rfl, hm, o1, o2⟩
      rintro v w4 hl ⟨x1, y1, x2, k2, y2, rfl, hm, o1, o2⟩
      replace HW := hide (HW.out.later hl)
      have HM := hide hm
      have HO : Hid (∀ b, (Value.slice ar kr cr).ownBlock = some b → OffS b (.slice x1 n y1) ∧ OffS b (.slice x2 k2 y2)) := fun b hb => by rw [HGB.out b hb]; exact ⟨o1, o2⟩
      clear hl hm o1 o2 HGB HG0 HP HI
      generalize ptF n F D (putS n D p r A) A X (thJ c cc) = F2 at *
      generalize ptD n D (putS n D p r A) A X (thJ c cc) = D2 at *
      generalize putS n D p r A = S2 at *
      iterate 6 (refine wpJ_mild rfl (fun K hK => ?_); go_simp; refine hK _ ?_; clear hK K)
      refine wpJ_storeO rfl rfl 27 (.tmp 51) (.tmp 47) rfl g 0 (tc (.slice x1 n y1) (.slice x2 k2 y2) p r l) rfl rfl Try.info_slot (tc_one _ _ _ _ _ _ _ _ _) _ _ HW.out.2.1 (by simp) (fun W hW => trivial) ?_
      intro wl hl wz hz
      have HA := (HW.out.later hl).slot HG.out x1 y1 x2 k2 y2 F2 D2 (HM.out.later hl) HO.out
      rw [← hz.out] at HA
      replace HW := hide HA
      clear HA hz hl HM HO
      iterate 3 (refine wpJ_mild rfl (fun K hK => ?_); go_simp; refine hK _ ?_; clear hK K)
      refine wpJ_storeO rfl rfl 30 (.tmp 54) (.tmp 48) rfl g 18 (sc S2) rfl rfl Try.info_sense (sc_one _) _ _ HW.out.2.1 (by simp) (fun W hW => trivial) ?_
      intro wl hl wy hy
      have HA := (HW.out.later hl).bad HG.out S2
      rw [← hy.out] at HA
      replace HW := hide HA
      clear HA hy hl
      refine wpJ_nil (fun wn hn => ?_)
      replace HW := hide (HW.out.later hn)
      clear hn
      go_wp2
      refine bodyPost_ret (results_none rfl _ _ _) rfl ⟨_, x1, y1, x2, k2, y2, rfl, ?_⟩
      rw [ES0.out, EF0.out, ED0.out]
      exact HW.out
  · have hk3 : classI c.1 = 3 := by omega
    have ek : (classI c.1 == 2) = false := by simp [hk]
    have E1 : Hid (blkF n F D p r cc c (0, 0, 0) i X = F) := by rw [Hid, blkF, if_pos (.inr hk3)]
    have E2 : Hid (blkD n F D p r cc c (0, 0, 0) i X = D) := by rw [Hid, blkD, if_pos (.inr hk3)]
    have E3 := hide (ver_place (n := n) (F := F) (D := D) (p := p) (r := r) (cc := cc) (c := c) (i := i) (X := X) HW.out.2.2.1 HC.out.2.1 H2.out hk3)
    clear hk hcl hk3
    go_wp2_with (refine wpList_load_mid rfl 58 (.tmp 3) rfl gx 0 rfl (bv X) _ BX.out.range Try.underlying58 rfl (by rw [Try.info_block, bv_length, HX.out]) ?_)
    refine (verify_c _ HW.out.2.1 HW.out.2.2.1 X HX.out i H1.out.1 H1.out.2.1 H1.out.2.2 HC.out.2.1 HN.out.1 HN.out.2).mono ?_
    rintro e w4 ⟨rfl, hl⟩
    replace HW := hide (HW.out.later hl)
    clear hl BX
    rw [E3.out]
    generalize hbS : blkS n F D p r cc c (0, 0, 0) i X = S2 at *
    go_wp2_with (refine wpList_storeU rfl 30 (.tmp 61) (.tmp 58) rfl g 18 rfl (sc S2) rfl Try.info_sense (sc_one _) _ _ HW.out.2.1 (by simp) ?_)
    intro wz hz
    have HA := HW.out.bad HG.out S2
    rw [← hz.out] at HA
    go_wp2
    refine bodyPost_end (results_none rfl _ _ _) rfl ⟨_, ab, cb, aD, k, cD, rfl, ?_⟩
    rw [hbS, E1.out, E2.out]
    exact HA
end
end Go.Proofs.Ytbcikndebaeahaa
