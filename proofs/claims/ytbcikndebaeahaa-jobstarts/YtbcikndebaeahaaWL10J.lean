import Derived.Deep.Cut
import Derived.Test.YtbcikndebaeahaaMAT
import Derived.Test.YtbcikndebaeahaaMAQ
import Derived.Test.YtbcikndebaeahaaMAM
import Derived.Test.YtbcikndebaeahaaMAE
namespace Go.Proofs.Ytbcikndebaeahaa
open Go.ChangeShapes Go.WideShapes Go.ChangeAt Go.RowKit
set_option linter.unusedVariables false
set_option maxRecDepth 4000
set_option linter.unusedSimpArgs false
/-! The fixed fact of layer 10. -/
theorem Med.dlen {w : World} {ab : Option Addr} {n cb : Nat} {aD : Option Addr} {k cD : Nat} {F : List UInt8} {D : List Drt} (h : Med w (.agg #[.slice ab n cb, .slice aD k cD]) n F D) : k = D.length := by
  obtain ⟨vb, vd, e, hb, hd, ho⟩ := h
  simp at e
  obtain ⟨rfl, rfl⟩ := e
  obtain ⟨_, _, a, c, e, _⟩ := hd
  simp at e
  exact e.2.1
theorem Un.set10 {w : World} {v : Value} {n : Nat} {F : List UInt8} {D : List Drt} {p r l c : Bool} {am : Option Addr} {m cm : Nat} {s : Sns} (h : Un w v n F D p r l c am m cm s) {g : Nat} {ty : TypeId} {cs : List Value} (hB : Box w g ty cs) (hc : NoB cs) (vs : List Value) : Un (w.setCells g 0 vs) v n F D p r l c am m cm s := by
  obtain ⟨ab, cb, aD, k, cD, rfl, hm⟩ := h
  exact ⟨ab, cb, aD, k, cD, rfl, hm.setNoB hB hc vs 0⟩
theorem Jb.nil10 (w : World) (c : Cmd) (len : Int) (ar : Option Addr) (cr : Nat) : Jb w (jval c len 0 ar 0 cr (0, 0, 0)) c len 0 [] (0, 0, 0) := ⟨ar, cr, rfl, by simp, ar, cr, rfl, by simp, .inl rfl⟩
/-- what the acts come to, in short -/
def AliveF (FA FB FC FD FE : List UInt8) (DA DB DC DD DE : List Drt) (tC' tD' : Int) (RA RB RC RD : List UInt8) : Prop :=
  tkR 3 z192 [] true false true cW 128 0 [] (0, 0, 0) (bA.take 100) = ((FA, DA, (0, 0, 0)), 100, RA) ∧
  tkR 3 FA DA true false true cW 128 100 RA (0, 0, 0) bB = ((FB, DB, (0, 0, 0)), 128, RB) ∧
  tkR 3 (swF true false 3 z192 []) (swD true false 3 []) true true false cW 128 0 [] (0, 0, 0) bA = ((FC, DC, (7, 39, 0)), tC', RC) ∧
  tkR 3 FB DB true false true cV 128 0 [] (0, 0, 0) (List.replicate 64 0) = ((FD, DD, (14, 29, 0)), tD', RD) ∧
  tkR 3 FB DB true false true cM 24 0 [] (0, 0, 0) mM = ((FE, DE, (0, 0, 0)), 24, mM) ∧
  DA.length = 1 ∧ RA.length = 36 ∧ DB.length = 2 ∧ RB.length = 0 ∧
  finR true cW 128 100 RA (0, 0, 0) = (true, (5, 26, 0)) ∧ finR true cW 128 128 RB (0, 0, 0) = (true, (0, 0, 0))
theorem alive_f : ∃ FA FB FC FD FE DA DB DC DD DE tC' tD' RA RB RC RD, AliveF FA FB FC FD FE DA DB DC DD DE tC' tD' RA RB RC RD := by
  have hA := tA_f
  have hB := tB_f
  have hC := tC_f
  have hD := tD_f
  have hE := tE_f
  have fA := fA_f
  have fB := fB_f
  have hT := tB_t
  have dA : tkR 3 z192 [] true false true cW 128 0 [] (0, 0, 0) (bA.take 100) = tA := rfl
  have dC : tkR 3 (swF true false 3 z192 []) (swD true false 3 []) true true false cW 128 0 [] (0, 0, 0) bA = tC := rfl
  have dD : tkR 3 tB.1.1 tB.1.2.1 true false true cV 128 0 [] (0, 0, 0) (List.replicate 64 0) = tD := rfl
  have dE : tkR 3 tB.1.1 tB.1.2.1 true false true cM 24 0 [] (0, 0, 0) mM = tE := rfl
  generalize tA = A at *
  generalize tB = B at *
  generalize tC = C at *
  generalize tD = D at *
  generalize tE = E at *
  obtain ⟨⟨a1, a2, a3⟩, a4, a5⟩ := A
  obtain ⟨⟨b1, b2, b3⟩, b4, b5⟩ := B
  obtain ⟨⟨c1, c2, c3⟩, c4, c5⟩ := C
  obtain ⟨⟨d1, d2, d3⟩, d4, d5⟩ := D
  obtain ⟨⟨e1, e2, e3⟩, e4, e5⟩ := E
  simp only at *
  obtain ⟨rfl, rfl, hA1, hA2⟩ := hA
  obtain ⟨rfl, rfl, hB1, hB2⟩ := hB
  obtain ⟨rfl, rfl, rfl⟩ := hE
  subst hC hD
  exact ⟨a1, b1, c1, d1, e1, a2, b2, c2, d2, e2, c4, d4, a5, b5, c5, d5, dA, hT, dC, dD, dE, hA2, hA1, hB2, hB1, fA, fB⟩
theorem bs_drop10 {W : World} {g : Nat} {l : List UInt8} (h : Box W g 5 (bv l)) (k n : Nat) (hn : l.length = n) (hk : k ≤ n) (hm : n ≤ 1000000) : Bs W (.slice (some ⟨g, k, none⟩) (l.drop k).length (n - k)) (l.drop k) := by
  refine ⟨by rw [List.length_drop]; unfold maxLen; omega, some ⟨g, k, none⟩, n - k, rfl, by rw [List.length_drop]; omega, .inr ⟨g, k, rfl, fun j hj => ?_⟩⟩
  rw [List.length_drop] at hj
  rw [h.cell (k + j), bv_get_lt l (k + j) (by omega), List.getElem_drop]
theorem field_slot10 (w : World) (a1 : Option Addr) (c1 : Nat) (a2 : Option Addr) (c2 : Nat) : Sem.run Try.prog (Instr.field 32 (uval a1 3 c1 a2 0 c2 true false false true none 0 0 (0, 0, 0)) 0) w = .ok (.agg #[.slice a1 3 c1, .slice a2 0 c2, .bool true, .bool false, .bool false]) w := by
  rfl
/-- the landed job, of a unit without attentions -/
def ITakeZ : Prop := ∀ (u v b : Value) (n : Nat) (F : List UInt8) (D : List Drt) (p r l cc : Bool) (s : Sns) (c : Cmd) (len took : Int) (R : List UInt8) (S : Sns) (B : List UInt8) (w : World), Un w u n F D p r l cc none 0 0 s → Jb w v c len took R S → Bs w b B → OkC7 c → OkS S → In64 len → In64 took → n ≤ 70 → D.length ≤ 70 → R.length ≤ 100000 → B.length ≤ 100000 →
  Calls Try.prog 10 #[u, v, b] w fun e w' => ∃ u' v', e = .returned (.tuple #[u', v']) ∧ Later w w' ∧ Un w' u' n (tkR n F D p r cc c len took R S B).1.1 (tkR n F D p r cc c len took R S B).1.2.1 p r l cc none 0 0 s ∧ Jb w' v' c len (tkR n F D p r cc c len took R S B).2.1 (tkR n F D p r cc c len took R S B).2.2 (tkR n F D p r cc c len took R S B).1.2.2
theorem itake_z (iT : ITake10) : ITakeZ := by
  intro u v b n F D p r l cc s c len took R S B w hU hJ hB hc hS h1 h2 hn hD hR hBl
  refine (iT u v b n F D p r l cc none 0 0 s [] c len took R S B w hU (Sl.none10 w) hJ hB hc hS h1 h2 hn hD (by decide) hR hBl).mono ?_
  rintro e w' ⟨u', v', rfl, hl, ⟨a, c', hU', -, h0⟩, hJ'⟩
  obtain ⟨rfl, rfl⟩ := h0 rfl
  exact ⟨u', v', rfl, hl, hU', hJ'⟩
def IFinZ : Prop := ∀ (u v : Value) (n : Nat) (F : List UInt8) (D : List Drt) (p r l cc : Bool) (s : Sns) (c : Cmd) (len took : Int) (R : List UInt8) (S : Sns) (w : World), Un w u n F D p r l cc none 0 0 s → Jb w v c len took R S → OkC7 c → OkS S → In64 len → In64 took → n ≤ 70 → D.length ≤ 70 → R.length ≤ 100000 →
  Calls Try.prog 12 #[u, v] w fun e w' => ∃ u', e = .returned (.tuple #[u', sval (finR cc c len took R S).2]) ∧ Later w w' ∧ Un w' u' n F D p r l (finR cc c len took R S).1 none 0 0 s
theorem ifin_z (iF : IFin10) : IFinZ := by
  intro u v n F D p r l cc s c len took R S w hU hJ hc hS h1 h2 hn hD hR
  refine (iF u v n F D p r l cc none 0 0 s [] c len took R S w hU (Sl.none10 w) hJ hc hS h1 h2 hn hD (by decide) hR).mono ?_
  rintro e w' ⟨u', rfl, hl, ⟨a, c', hU', -, h0⟩⟩
  obtain ⟨rfl, rfl⟩ := h0 rfl
  exact ⟨u', rfl, hl, hU'⟩
/-- what Take comes to, as cells -/
theorem take_pd (iT : ITakeZ) {u v bv' : Value} {n : Nat} {F : List UInt8} {D : List Drt} {p r l cc : Bool} {s : Sns} {c : Cmd} {len took : Int} {R : List UInt8} {S : Sns} {B : List UInt8} {F2 : List UInt8} {D2 : List Drt} {S2 : Sns} {took2 : Int} {R2 : List UInt8} (kr : Nat) (W : World)
    (he : tkR n F D p r cc c len took R S B = ((F2, D2, S2), took2, R2)) (hk : R2.length = kr) (hU : Un W u n F D p r l cc none 0 0 s) (hJ : Jb W v c len took R S) (hB : Bs W bv' B) (hc : OkC7 c) (hS : OkS S) (h1 : In64 len) (h2 : In64 took) (hn : n ≤ 70) (hD : D.length ≤ 70) (hR : R.length ≤ 100000) (hBl : B.length ≤ 100000) :
    Calls Try.prog 10 #[u, v, bv'] W fun e w' => ∃ x y, e = .returned (.tuple #[.agg x.toArray, .agg y.toArray]) ∧ Later W w' ∧ PdT n F2 D2 p r l cc none 0 0 s c len took2 kr R2 S2 x y w' := by
  have h := iT u v bv' n F D p r l cc s c len took R S B W hU hJ hB hc hS h1 h2 hn hD hR hBl
  rw [he] at h
  refine h.mono ?_
  rintro e w' ⟨u', v', rfl, hl, ⟨a1, a2, a3, a4, a5, rfl, hm1⟩, ⟨b1, b2, rfl, hb1⟩⟩
  exact ⟨_, _, rfl, hl, ⟨a1, a2, a3, a4, a5, rfl, hm1⟩, b1, b2, by rw [← hk], by rw [← hk]; exact hb1⟩
set_option maxRecDepth 20000 in
set_option maxHeartbeats 8000000 in
theorem alive10_c (iS : IStart10) (iT' : ITake10) (iF' : IFin10) : Alive10 := by
  intro w
  have iT := itake_z iT'
  have iF := ifin_z iF'
  clear iT' iF'
  obtain ⟨FA, FB, FC, FD, FE, DA, DB, DC, DD, DE, tC', tD', RA, RB, RC, RD, hAl⟩ := alive_f
  have HAl := hide hAl
  clear hAl
  have LL := hide (Later.refl w)
  go_enter Try.func7, Try.ntmps7
  go_wp2_with (refine wpList_makeB rfl (.const (.int .i64 128)) (.const (.int .i64 128)) rfl 128 rfl rfl (by decide) ?_)
  intro gb w1 hB hl hg
  replace LL := hide (LL.out.trans hl)
  have BB := hide hB
  have HG : Hid (w.heap.size ≤ gb) := by rw [Hid, hg.out]; exact Nat.le_refl _
  clear hl hg hB
  go_wp2_with (refine wpList_storeB rfl 5 (.tmp 32) (.const (.int .u8 7)) rfl gb 3 rfl 7 rfl Try.info1_u8 5 (List.replicate 128 0) BB.out (by simp) 7 rfl ?_)
  intro w2 hB h2
  have L2 : Hid (Later w w2) := by rw [h2.out]; exact LL.out.setCells HG.out _ _
  have B2 := hide hB
  clear hB h2 BB LL
  go_wp2_with (refine wpList_storeB rfl 5 (.tmp 33) (.const (.int .u8 8)) rfl gb 70 rfl 8 rfl Try.info1_u8 5 ((List.replicate 128 0).set 3 7) B2.out (by simp) 8 rfl ?_)
  intro w3 hB h3
  have LL : Hid (Later w w3) := by rw [h3.out]; exact L2.out.setCells HG.out _ _
  have BB : Hid (Box w3 gb 5 (bv bA)) := hB
  clear hB h3 B2 L2
  go_wp2_with fail
  refine (iS cW _ (by unfold OkC7; decide)).mono ?_
  rintro e w4 ⟨va, rfl, hl, ar, cr, rfl, hb⟩
  replace LL := hide (LL.out.trans hl)
  replace BB := hide (BB.out.later hl)
  clear hl hb
  rw [start_w.1, start_w.2.1, start_w.2.2, show ([] : List UInt8).length = 0 from rfl]
  go_wp2_with (refine wpList_newJ rfl rfl rfl 2 rfl (by simp) (.tmp 37) (by simp) rfl cW 128 0 ar 0 cr (0, 0, 0) rfl ?_)
  intro g2 w5 hB4 hl hg
  replace LL := hide (LL.out.trans hl)
  replace BB := hide (BB.out.later hl)
  have B2 := hide hB4
  clear hl hB4 hg
  go_wp2_with fail
  have hc := fun q => ((Later.refl w5).drew.trans (later_rg w5.drew q))
  have y_0 := fun q => (B2.out.later (hc q)).cell 0
  have y_1 := fun q => (B2.out.later (hc q)).cell 1
  have y_2 := fun q => (B2.out.later (hc q)).cell 2
  have y_3 := fun q => (B2.out.later (hc q)).cell 3
  have y_4 := fun q => (B2.out.later (hc q)).cell 4
  have y_5 := fun q => (B2.out.later (hc q)).cell 5
  have y_6 := fun q => (B2.out.later (hc q)).cell 6
  have y_7 := fun q => (B2.out.later (hc q)).cell 7
  have y_8 := fun q => (B2.out.later (hc q)).cell 8
  have y_9 := fun q => (B2.out.later (hc q)).cell 9
  have y_10 := fun q => (B2.out.later (hc q)).cell 10
  refine wp_region_bag3 [1, 2, 3] [0, 4, 5, 6, 7, 8, 9, 10, 11] [10, 11] (by kernel_rfl) (by kernel_rfl) (by kernel_rfl) (by kernel_rfl) ?_
  iterate 3 (refine wpM_mild rfl (fun K hK => ?_); go_simp; refine hK _ ?_; clear hK K)
  clear y_0 y_1 y_2 y_3 y_4 y_5 y_6 y_7 y_8 y_9 y_10
  clear hc
  have hwd := (Later.refl w5).drew
  refine wpM_nil (chain_u4 10 (Plain.of (by kernel_rfl)) 32 38 (by decide) (by decide) (by decide) (uc none 0 0 none 0 0 false false false false none 0 0 (0, 0, 0)) (jc (0, 0, 0, 0, 0) 0 0 none 0 0 (0, 0, 0)) Try.zero_unit Try.zero_job Try.info_unit Try.info_job (uc_nob _ _ _ _ _ _ _ _ _ _ _ _ _ _) (jc_nob _ _ _ _ _ _ _)
    (PdT 3 FA DA true false false true none 0 0 (0, 0, 0) cW 128 100 36 RA (0, 0, 0)) (fun x y W h => h.one) (fun x y W W' hl h => h.later hl) (fun x y W g t cs vs hB hn _ h => h.set hB hn vs)
    (jval cW 128 0 ar 0 cr (0, 0, 0)) rfl (.slice (some ⟨gb, 0, none⟩) 100 128) rfl
    (fun v W => Un W v 3 z192 [] true false false true none 0 0 (0, 0, 0)) rfl (fun v W W' hl h => h.later hl) (fun v W g t cs vs _ hB hn _ h => h.set10 hB hn vs) (fun W hW => lVal_callAt ⟨_, rfl, rfl, rfl, rfl⟩ (Plain.of (by kernel_rfl)) [] rfl (unit10_c W))
    _
    ⟨_, rfl, rfl, rfl, rfl⟩ ⟨_, rfl, rfl, rfl, rfl⟩ ⟨_, rfl, rfl, rfl, rfl⟩ ⟨_, rfl, rfl, rfl, rfl⟩ ⟨_, rfl, rfl, rfl, rfl⟩ ⟨_, rfl, rfl, rfl, rfl⟩ ⟨_, rfl, rfl, rfl, rfl⟩ ⟨_, rfl, rfl, rfl, rfl⟩ (of_decide_eq_true (by kernel_rfl)) (by kernel_rfl) ?k4A ?k5A)
  case k4A =>
    intro W v0 hW h0
    exact take_pd iT 36 W HAl.out.1 HAl.out.2.2.2.2.2.2.1 h0 (Jb.nil10 _ _ _ _ _) ((show Bs W (.slice (some ⟨gb, 0, none⟩) 128 128) bA from bs_of_box (BB.out.later (hwd.trans hW)) rfl rfl (by decide)).cut7 100 (by decide)) (by unfold OkC7; decide) ⟨by simp, by simp, by simp⟩ (by decide) (by decide) (by decide) (by decide) (by decide) (by decide)
  intro x y g4 g5 WA v0 hL hb1 hb2 hPd hg1 hg2
  obtain ⟨⟨aA, cbA, dA, kA, cDA, rfl, hm1⟩, arA, crA, rfl, hr1⟩ := hPd
  have hl := hwd.trans hL
  replace LL := hide (LL.out.trans hl)
  replace BB := hide (BB.out.later hl)
  replace B2 := hide (B2.out.later hl)
  have Bg4 := hide hb1
  have Bg5 := hide hb2
  have MA := hide hm1
  have VA := hide hr1
  obtain rfl : kA = 1 := by have := hm1.dlen; rw [HAl.out.2.2.2.2.2.1] at this; exact this
  clear hl hwd hL hb1 hb2 hm1 hr1 hg1 hg2
  have x_0 := Bg4.out.cell 0
  have x_1 := Bg4.out.cell 1
  have x_2 := Bg4.out.cell 2
  have x_3 := Bg4.out.cell 3
  have x_4 := Bg4.out.cell 4
  have x_5 := Bg4.out.cell 5
  have x_6 := Bg4.out.cell 6
  have x_7 := Bg4.out.cell 7
  have x_8 := Bg4.out.cell 8
  have x_9 := Bg4.out.cell 9
  have y_0 := Bg5.out.cell 0
  have y_1 := Bg5.out.cell 1
  have y_2 := Bg5.out.cell 2
  have y_3 := Bg5.out.cell 3
  have y_4 := Bg5.out.cell 4
  have y_5 := Bg5.out.cell 5
  have y_6 := Bg5.out.cell 6
  have y_7 := Bg5.out.cell 7
  have y_8 := Bg5.out.cell 8
  have y_9 := Bg5.out.cell 9
  have y_10 := Bg5.out.cell 10
  go_wp2_with fail
  have hF6 := iF (uval aA 3 cbA dA 1 cDA true false false true none 0 0 (0, 0, 0)) (jval cW 128 100 arA 36 crA (0, 0, 0)) 3 FA DA true false false true (0, 0, 0) cW 128 100 RA (0, 0, 0) _ ⟨_, _, _, _, _, rfl, MA.out⟩ (Jb.mk' VA.out) (by unfold OkC7; decide) ⟨by simp, by simp, by simp⟩ (by decide) (by decide) (by decide) (by rw [HAl.out.2.2.2.2.2.1]; decide) (by rw [HAl.out.2.2.2.2.2.2.1]; decide)
  rw [HAl.out.2.2.2.2.2.2.2.2.2.1] at hF6
  refine hF6.mono ?_
  clear hF6
  rintro e w6 ⟨uu, rfl, hl, ⟨a6, cb6, d6, k6, cD6, rfl, hm1⟩⟩
  replace LL := hide (LL.out.trans hl)
  replace BB := hide (BB.out.later hl)
  replace B2 := hide (B2.out.later hl)
  replace Bg4 := hide (Bg4.out.later hl)
  replace Bg5 := hide (Bg5.out.later hl)
  replace MA := hide (MA.out.later hl)
  replace VA := hide (VA.out.later hl)
  have M6 := hide hm1
  clear hl hm1
  clear x_0 x_1 x_2 x_3 x_4 x_5 x_6 x_7 x_8 x_9
  clear y_0 y_1 y_2 y_3 y_4 y_5 y_6 y_7 y_8 y_9 y_10
  go_wp2_with (refine wpList_newUS rfl rfl rfl rfl rfl rfl 6 7 rfl rfl (by simp) (by simp) (by decide) (.tmp 51) (.tmp 52) (by simp) (by simp) (by simp) (by simp) rfl rfl rfl rfl a6 3 cb6 d6 k6 cD6 true false false true none 0 0 (0, 0, 0) rfl (5, 26, 0) rfl ?_)
  intro g6 g7 w6n hB8 hB9 hl hg
  replace LL := hide (LL.out.trans hl)
  replace BB := hide (BB.out.later hl)
  replace B2 := hide (B2.out.later hl)
  replace Bg4 := hide (Bg4.out.later hl)
  replace Bg5 := hide (Bg5.out.later hl)
  replace MA := hide (MA.out.later hl)
  replace VA := hide (VA.out.later hl)
  replace M6 := hide (M6.out.later hl)
  have Bg6 := hide hB8
  have Bg7 := hide hB9
  clear hl hB8 hB9 hg
  clear M6 Bg6
  have BD := hide (fun (W : World) (h : Later w6n W) => bs_drop10 (BB.out.later h) 100 128 rfl (by decide) (by decide))
  go_wp2_with fail
  have hc := fun q => ((Later.refl w6n).drew.trans (later_rg w6n.drew q))
  refine wp_region_bag3 [3, 4] [0, 1, 2, 5, 6, 7, 8, 9, 10, 11, 12, 13, 14, 15] [7, 14, 15] (by kernel_rfl) (by kernel_rfl) (by kernel_rfl) (by kernel_rfl) ?_
  iterate 2 (refine wpM_mild rfl (fun K hK => ?_); go_simp; refine hK _ ?_; clear hK K)
  clear hc
  have hwd := (Later.refl w6n).drew
  refine wpM_nil (chain_u6 10 (Plain.of (by kernel_rfl)) 32 38 (by decide) (by decide) (by decide) (uc none 0 0 none 0 0 false false false false none 0 0 (0, 0, 0)) (jc (0, 0, 0, 0, 0) 0 0 none 0 0 (0, 0, 0)) Try.zero_unit Try.zero_job Try.info_unit Try.info_job (uc_nob _ _ _ _ _ _ _ _ _ _ _ _ _ _) (jc_nob _ _ _ _ _ _ _)
    (PdT 3 FB DB true false false true none 0 0 (0, 0, 0) cW 128 128 0 RB (0, 0, 0)) (fun x y W h => h.one) (fun x y W W' hl h => h.later hl) (fun x y W g t cs vs hB hn _ h => h.set hB hn vs)
    (.slice (some ⟨gb, 100, none⟩) 28 28) rfl
    (fun v W => v = uval aA 3 cbA dA 1 cDA true false false true none 0 0 (0, 0, 0)) rfl (fun v W W' _ h => h) (fun v W g t cs vs _ _ _ _ h => h) (fun W hW => lVal_loadAt ⟨_, rfl, rfl, rfl, rfl⟩ g4 _ rfl (load_unit (Bg4.out.later (hwd.trans hW)) rfl) rfl) (fun v W W' _ h => h)
    (fun v W => v = jval cW 128 100 arA 36 crA (0, 0, 0)) rfl (fun v W W' _ h => h) (fun v W g t cs vs _ _ _ _ h => h) (fun W hW => lVal_loadAt ⟨_, rfl, rfl, rfl, rfl⟩ g5 _ rfl (load_job (Bg5.out.later (hwd.trans hW)) rfl) rfl) (fun v W W' _ h => h)
    (fun v W => LitB w6n.drew W v []) rfl (fun v W W' hl h => h.later hl) (fun v W g t cs vs ht hB hn _ h => h.set ht hB vs 0) (fun W hW => lVal_litB 0 #[] ⟨_, rfl, rfl, rfl, rfl⟩ [] w6n.drew hW.size rfl (fun o ho => by simp [execOp, ho]; go_simp; rfl) (fun v W h => h))
    (fun v W => W.ownsRow w6n.drew.heap.size 5 1 v (bA.drop 100).length (bv (bA.drop 100))) rfl (fun v W W' hl h => owns_later h hl) (fun v W g t cs vs ht hB hn _ h => owns_set8 h ht hB vs 0) (fun W v2 a2 f1 f2 hW h2 => by
      obtain ⟨g, rfl, hBx, hgx⟩ := h2
      exact lVal_append_lit Try.elem_u8 Try.underlying36 rfl (by decide) rfl rfl (.tmp 56) (.tmp 58) rfl _ g f1 (owns_box hBx rfl (by decide) hgx) hW.size _ _ (bv (bA.drop 100)) f2 (BD.out W (hwd.trans hW)).rw (bv_one _) (by decide) (fun v' w' h => h))
    (fun v W => LitB w6n.drew W v [1, 2]) rfl (fun v W W' hl h => h.later hl) (fun v W g t cs vs ht hB hn _ h => h.set ht hB vs 0) (fun W hW => lVal_litB 2 #[(0, .const (.int .u8 1)), (1, .const (.int .u8 2))] ⟨_, rfl, rfl, rfl, rfl⟩ [1, 2] w6n.drew hW.size rfl (fun o ho => by simp [execOp, ho]; go_simp; rfl) (fun v W h => h))
    (fun v W => Bs W v bB) rfl (fun v W W' hl h => h.later hl) (fun v W g t cs vs ht hB hn _ h => h.setNoB hB hn vs 0) (fun W v2 v5 v6 a2 f1 f2 f3 hW h2 h5 h6 => sVal_appB (.tmp 59) (.tmp 60) ⟨_, rfl, rfl, rfl, rfl⟩ hW v2 v5 v6 (bA.drop 100) [1, 2] f2 f3 h2 h5 h6 (by decide) (by decide) (by decide))
    _
    ⟨_, rfl, rfl, rfl, rfl⟩ ⟨_, rfl, rfl, rfl, rfl⟩ ⟨_, rfl, rfl, rfl, rfl⟩ ⟨_, rfl, rfl, rfl, rfl⟩ ⟨_, rfl, rfl, rfl, rfl⟩ ⟨_, rfl, rfl, rfl, rfl⟩ ⟨_, rfl, rfl, rfl, rfl⟩ ⟨_, rfl, rfl, rfl, rfl⟩ (of_decide_eq_true (by kernel_rfl)) (by kernel_rfl) ?k4B ?k5B)
  case k4B =>
    intro W v0 v1 v2 v3 v4 v5 hW h0 h1 h2 h3 h4 h5
    subst h0 h1
    exact take_pd iT 0 W HAl.out.2.1 HAl.out.2.2.2.2.2.2.2.2.1 ⟨_, _, _, _, _, rfl, MA.out.later (hwd.trans hW)⟩ (Jb.mk' (VA.out.later (hwd.trans hW))) h5 (by unfold OkC7; decide) ⟨by simp, by simp, by simp⟩ (by decide) (by decide) (by decide) (by rw [HAl.out.2.2.2.2.2.1]; decide) (by rw [HAl.out.2.2.2.2.2.2.1]; decide) (by decide)
  intro x y g8 g9 WB v0 v1 v2 v3 v4 v5 hL hb1 hb2 hPd hg1 hg2
  obtain ⟨⟨aB, cbB, dB, kB, cDB, rfl, hm1⟩, arB, crB, rfl, hr1⟩ := hPd
  have hl := hwd.trans hL
  replace LL := hide (LL.out.trans hl)
  replace BB := hide (BB.out.later hl)
  replace B2 := hide (B2.out.later hl)
  replace Bg4 := hide (Bg4.out.later hl)
  replace Bg5 := hide (Bg5.out.later hl)
  replace MA := hide (MA.out.later hl)
  replace VA := hide (VA.out.later hl)
  replace Bg7 := hide (Bg7.out.later hl)
  have Bg8 := hide hb1
  have Bg9 := hide hb2
  have MB := hide hm1
  have VB := hide hr1
  obtain rfl : kB = 2 := by have := hm1.dlen; rw [HAl.out.2.2.2.2.2.2.2.1] at this; exact this
  clear hl hwd hL hb1 hb2 hm1 hr1 hg1 hg2
  clear BD
  have x_0 := Bg8.out.cell 0
  have x_1 := Bg8.out.cell 1
  have x_2 := Bg8.out.cell 2
  have x_3 := Bg8.out.cell 3
  have x_4 := Bg8.out.cell 4
  have x_5 := Bg8.out.cell 5
  have x_6 := Bg8.out.cell 6
  have x_7 := Bg8.out.cell 7
  have x_8 := Bg8.out.cell 8
  have x_9 := Bg8.out.cell 9
  have y_0 := Bg9.out.cell 0
  have y_1 := Bg9.out.cell 1
  have y_2 := Bg9.out.cell 2
  have y_3 := Bg9.out.cell 3
  have y_4 := Bg9.out.cell 4
  have y_5 := Bg9.out.cell 5
  have y_6 := Bg9.out.cell 6
  have y_7 := Bg9.out.cell 7
  have y_8 := Bg9.out.cell 8
  have y_9 := Bg9.out.cell 9
  have y_10 := Bg9.out.cell 10
  go_wp2_with fail
  have hFF := iF (uval aB 3 cbB dB 2 cDB true false false true none 0 0 (0, 0, 0)) (jval cW 128 128 arB 0 crB (0, 0, 0)) 3 FB DB true false false true (0, 0, 0) cW 128 128 RB (0, 0, 0) _ ⟨_, _, _, _, _, rfl, MB.out⟩ (Jb.mk' VB.out) (by unfold OkC7; decide) ⟨by simp, by simp, by simp⟩ (by decide) (by decide) (by decide) (by rw [HAl.out.2.2.2.2.2.2.2.1]; decide) (by rw [HAl.out.2.2.2.2.2.2.2.2.1]; decide)
  rw [HAl.out.2.2.2.2.2.2.2.2.2.2] at hFF
  refine hFF.mono ?_
  clear hFF
  rintro e w7 ⟨uu, rfl, hl, ⟨aF, cbF, dF, kF, cDF, rfl, hm1⟩⟩
  replace LL := hide (LL.out.trans hl)
  replace BB := hide (BB.out.later hl)
  replace B2 := hide (B2.out.later hl)
  replace Bg4 := hide (Bg4.out.later hl)
  replace Bg5 := hide (Bg5.out.later hl)
  replace MA := hide (MA.out.later hl)
  replace VA := hide (VA.out.later hl)
  replace Bg7 := hide (Bg7.out.later hl)
  replace Bg8 := hide (Bg8.out.later hl)
  replace Bg9 := hide (Bg9.out.later hl)
  replace MB := hide (MB.out.later hl)
  replace VB := hide (VB.out.later hl)
  have MF := hide hm1
  clear hl hm1
  clear x_0 x_1 x_2 x_3 x_4 x_5 x_6 x_7 x_8 x_9
  clear y_0 y_1 y_2 y_3 y_4 y_5 y_6 y_7 y_8 y_9 y_10
  go_wp2_with (refine wpList_newUS rfl rfl rfl rfl rfl rfl 10 11 rfl rfl (by simp) (by simp) (by decide) (.tmp 69) (.tmp 70) (by simp) (by simp) (by simp) (by simp) rfl rfl rfl rfl aF 3 cbF dF kF cDF true false false true none 0 0 (0, 0, 0) rfl (0, 0, 0) rfl ?_)
  intro g10 g11 w7n hB8 hB9 hl hg
  replace LL := hide (LL.out.trans hl)
  replace BB := hide (BB.out.later hl)
  replace B2 := hide (B2.out.later hl)
  replace Bg4 := hide (Bg4.out.later hl)
  replace Bg5 := hide (Bg5.out.later hl)
  replace MA := hide (MA.out.later hl)
  replace VA := hide (VA.out.later hl)
  replace Bg7 := hide (Bg7.out.later hl)
  replace Bg8 := hide (Bg8.out.later hl)
  replace Bg9 := hide (Bg9.out.later hl)
  replace MB := hide (MB.out.later hl)
  replace VB := hide (VB.out.later hl)
  replace MF := hide (MF.out.later hl)
  have Bg10 := hide hB8
  have Bg11 := hide hB9
  clear hl hB8 hB9 hg
  obtain rfl : kF = 2 := by have := MF.out.dlen; rw [HAl.out.2.2.2.2.2.2.2.1] at this; exact this
  go_wp2_with fail
  refine (unit10_c _).mono ?_
  rintro e w8 ⟨uu, rfl, hl, ⟨au, cbu, du, ku, cDu, rfl, hmu⟩⟩
  replace LL := hide (LL.out.trans hl)
  replace BB := hide (BB.out.later hl)
  replace B2 := hide (B2.out.later hl)
  replace Bg4 := hide (Bg4.out.later hl)
  replace Bg5 := hide (Bg5.out.later hl)
  replace MA := hide (MA.out.later hl)
  replace VA := hide (VA.out.later hl)
  replace Bg7 := hide (Bg7.out.later hl)
  replace Bg8 := hide (Bg8.out.later hl)
  replace Bg9 := hide (Bg9.out.later hl)
  replace MB := hide (MB.out.later hl)
  replace VB := hide (VB.out.later hl)
  replace MF := hide (MF.out.later hl)
  replace Bg10 := hide (Bg10.out.later hl)
  replace Bg11 := hide (Bg11.out.later hl)
  obtain rfl : ku = 0 := hmu.dlen
  have hfs := field_slot10 w8 au cbu du cDu
  have MU := hide hmu
  clear hl hmu
  go_wp2_with fail
  refine (rswitch_c true _ (show Slt w8 (.agg #[.slice au 3 cbu, .slice du 0 cDu, .bool true, .bool false, .bool false]) 3 z192 [] true false false from ⟨_, _, _, _, _, rfl, MU.out⟩)).mono ?_
  rintro e w8b ⟨vs, rfl, hl, ⟨aS, cbS, dS, kS, cDS, rfl, hmS⟩, -⟩
  replace LL := hide (LL.out.trans hl)
  replace BB := hide (BB.out.later hl)
  replace B2 := hide (B2.out.later hl)
  replace Bg4 := hide (Bg4.out.later hl)
  replace Bg5 := hide (Bg5.out.later hl)
  replace MA := hide (MA.out.later hl)
  replace VA := hide (VA.out.later hl)
  replace Bg7 := hide (Bg7.out.later hl)
  replace Bg8 := hide (Bg8.out.later hl)
  replace Bg9 := hide (Bg9.out.later hl)
  replace MB := hide (MB.out.later hl)
  replace VB := hide (VB.out.later hl)
  replace MF := hide (MF.out.later hl)
  replace Bg10 := hide (Bg10.out.later hl)
  replace Bg11 := hide (Bg11.out.later hl)
  have MS := hide hmS
  clear hl hmS MU hfs
  go_wp2_with (refine wpList_newN rfl rfl rfl 12 rfl (by simp) (.tmp 74) (by simp) rfl aS 3 cbS dS kS cDS true true false false none 0 0 (0, 0, 0) rfl ?_)
  intro g12 w8c hB4 hl hg
  replace LL := hide (LL.out.trans hl)
  replace BB := hide (BB.out.later hl)
  replace B2 := hide (B2.out.later hl)
  replace Bg4 := hide (Bg4.out.later hl)
  replace Bg5 := hide (Bg5.out.later hl)
  replace MA := hide (MA.out.later hl)
  replace VA := hide (VA.out.later hl)
  replace Bg7 := hide (Bg7.out.later hl)
  replace Bg8 := hide (Bg8.out.later hl)
  replace Bg9 := hide (Bg9.out.later hl)
  replace MB := hide (MB.out.later hl)
  replace VB := hide (VB.out.later hl)
  replace MF := hide (MF.out.later hl)
  replace Bg10 := hide (Bg10.out.later hl)
  replace Bg11 := hide (Bg11.out.later hl)
  replace MS := hide (MS.out.later hl)
  have Bg12 := hide hB4
  clear hl hB4 hg
  have x_0 := Bg12.out.cell 0
  have x_1 := Bg12.out.cell 1
  have x_2 := Bg12.out.cell 2
  have x_3 := Bg12.out.cell 3
  have x_4 := Bg12.out.cell 4
  have x_5 := Bg12.out.cell 5
  have x_6 := Bg12.out.cell 6
  have x_7 := Bg12.out.cell 7
  have x_8 := Bg12.out.cell 8
  have x_9 := Bg12.out.cell 9
  have y_0 := B2.out.cell 0
  have y_1 := B2.out.cell 1
  have y_2 := B2.out.cell 2
  have y_3 := B2.out.cell 3
  have y_4 := B2.out.cell 4
  have y_5 := B2.out.cell 5
  have y_6 := B2.out.cell 6
  have y_7 := B2.out.cell 7
  have y_8 := B2.out.cell 8
  have y_9 := B2.out.cell 9
  have y_10 := B2.out.cell 10
  go_wp2_with fail
  refine (take_pd iT (u := uval aS 3 cbS dS kS cDS true true false false none 0 0 (0, 0, 0)) (v := jval cW 128 0 ar 0 cr (0, 0, 0)) (bv' := .slice (some ⟨gb, 0, none⟩) 128 128) (l := false) (cc := false) (s := (0, 0, 0)) RC.length w8c HAl.out.2.2.1 rfl ⟨_, _, _, _, _, rfl, MS.out⟩ (Jb.nil10 _ _ _ ar cr) (show Bs w8c (.slice (some ⟨gb, 0, none⟩) 128 128) bA from bs_of_box BB.out rfl rfl (by decide)) (by unfold OkC7; decide) ⟨by simp, by simp, by simp⟩ (by decide) (by decide) (by decide) (by decide) (by decide) (by decide)).mono ?_
  rintro e w9 ⟨x, y, rfl, hl, ⟨aC, cbC, dC, kC, cDC, rfl, -⟩, arC, crC, rfl, -⟩
  replace LL := hide (LL.out.trans hl)
  replace BB := hide (BB.out.later hl)
  replace B2 := hide (B2.out.later hl)
  replace Bg4 := hide (Bg4.out.later hl)
  replace Bg5 := hide (Bg5.out.later hl)
  replace MA := hide (MA.out.later hl)
  replace VA := hide (VA.out.later hl)
  replace Bg7 := hide (Bg7.out.later hl)
  replace Bg8 := hide (Bg8.out.later hl)
  replace Bg9 := hide (Bg9.out.later hl)
  replace MB := hide (MB.out.later hl)
  replace VB := hide (VB.out.later hl)
  replace MF := hide (MF.out.later hl)
  replace Bg10 := hide (Bg10.out.later hl)
  replace Bg11 := hide (Bg11.out.later hl)
  replace MS := hide (MS.out.later hl)
  replace Bg12 := hide (Bg12.out.later hl)
  clear hl
  clear x_0 x_1 x_2 x_3 x_4 x_5 x_6 x_7 x_8 x_9
  clear y_0 y_1 y_2 y_3 y_4 y_5 y_6 y_7 y_8 y_9 y_10
  clear MS Bg12
  go_wp2_with (refine wpList_newUJ rfl rfl rfl rfl rfl rfl 13 14 rfl rfl (by simp) (by simp) (by decide) (.tmp 80) (.tmp 81) (by simp) (by simp) (by simp) (by simp) rfl rfl rfl rfl aC 3 cbC dC kC cDC true true false false none 0 0 (0, 0, 0) rfl cW 128 tC' arC RC.length crC (7, 39, 0) rfl ?_)
  intro g13 g14 w9n hB8 hB9 hl hg
  replace LL := hide (LL.out.trans hl)
  replace BB := hide (BB.out.later hl)
  replace B2 := hide (B2.out.later hl)
  replace Bg4 := hide (Bg4.out.later hl)
  replace Bg5 := hide (Bg5.out.later hl)
  replace MA := hide (MA.out.later hl)
  replace VA := hide (VA.out.later hl)
  replace Bg7 := hide (Bg7.out.later hl)
  replace Bg8 := hide (Bg8.out.later hl)
  replace Bg9 := hide (Bg9.out.later hl)
  replace MB := hide (MB.out.later hl)
  replace VB := hide (VB.out.later hl)
  replace MF := hide (MF.out.later hl)
  replace Bg10 := hide (Bg10.out.later hl)
  replace Bg11 := hide (Bg11.out.later hl)
  have Bg14 := hide hB9
  clear hl hB8 hB9 hg
  go_wp2_with fail
  refine (iS cV _ (by unfold OkC7; decide)).mono ?_
  rintro e w10 ⟨va, rfl, hl, ar15, cr15, rfl, hb⟩
  replace LL := hide (LL.out.trans hl)
  replace BB := hide (BB.out.later hl)
  replace B2 := hide (B2.out.later hl)
  replace Bg4 := hide (Bg4.out.later hl)
  replace Bg5 := hide (Bg5.out.later hl)
  replace MA := hide (MA.out.later hl)
  replace VA := hide (VA.out.later hl)
  replace Bg7 := hide (Bg7.out.later hl)
  replace Bg8 := hide (Bg8.out.later hl)
  replace Bg9 := hide (Bg9.out.later hl)
  replace MB := hide (MB.out.later hl)
  replace VB := hide (VB.out.later hl)
  replace MF := hide (MF.out.later hl)
  replace Bg10 := hide (Bg10.out.later hl)
  replace Bg11 := hide (Bg11.out.later hl)
  replace Bg14 := hide (Bg14.out.later hl)
  clear hl hb
  rw [start_v.1, start_v.2.1, start_v.2.2, show ([] : List UInt8).length = 0 from rfl]
  go_wp2_with (refine wpList_newJ rfl rfl rfl 15 rfl (by simp) (.tmp 85) (by simp) rfl cV 128 0 ar15 0 cr15 (0, 0, 0) rfl ?_)
  intro g15 w10n hB4 hl hg
  replace LL := hide (LL.out.trans hl)
  replace BB := hide (BB.out.later hl)
  replace B2 := hide (B2.out.later hl)
  replace Bg4 := hide (Bg4.out.later hl)
  replace Bg5 := hide (Bg5.out.later hl)
  replace MA := hide (MA.out.later hl)
  replace VA := hide (VA.out.later hl)
  replace Bg7 := hide (Bg7.out.later hl)
  replace Bg8 := hide (Bg8.out.later hl)
  replace Bg9 := hide (Bg9.out.later hl)
  replace MB := hide (MB.out.later hl)
  replace VB := hide (VB.out.later hl)
  replace MF := hide (MF.out.later hl)
  replace Bg10 := hide (Bg10.out.later hl)
  replace Bg11 := hide (Bg11.out.later hl)
  replace Bg14 := hide (Bg14.out.later hl)
  have Bg15 := hide hB4
  clear hl hB4 hg
  go_wp2_with fail
  have hc := fun q => ((Later.refl w10n).drew.trans (later_rg w10n.drew q))
  have x_0 := fun q => (Bg10.out.later (hc q)).cell 0
  have x_1 := fun q => (Bg10.out.later (hc q)).cell 1
  have x_2 := fun q => (Bg10.out.later (hc q)).cell 2
  have x_3 := fun q => (Bg10.out.later (hc q)).cell 3
  have x_4 := fun q => (Bg10.out.later (hc q)).cell 4
  have x_5 := fun q => (Bg10.out.later (hc q)).cell 5
  have x_6 := fun q => (Bg10.out.later (hc q)).cell 6
  have x_7 := fun q => (Bg10.out.later (hc q)).cell 7
  have x_8 := fun q => (Bg10.out.later (hc q)).cell 8
  have x_9 := fun q => (Bg10.out.later (hc q)).cell 9
  have y_0 := fun q => (Bg15.out.later (hc q)).cell 0
  have y_1 := fun q => (Bg15.out.later (hc q)).cell 1
  have y_2 := fun q => (Bg15.out.later (hc q)).cell 2
  have y_3 := fun q => (Bg15.out.later (hc q)).cell 3
  have y_4 := fun q => (Bg15.out.later (hc q)).cell 4
  have y_5 := fun q => (Bg15.out.later (hc q)).cell 5
  have y_6 := fun q => (Bg15.out.later (hc q)).cell 6
  have y_7 := fun q => (Bg15.out.later (hc q)).cell 7
  have y_8 := fun q => (Bg15.out.later (hc q)).cell 8
  have y_9 := fun q => (Bg15.out.later (hc q)).cell 9
  have y_10 := fun q => (Bg15.out.later (hc q)).cell 10
  refine wp_region_bag3 [0, 1] [2, 3, 4, 5, 6, 7, 8, 9, 10] [9, 10] (by kernel_rfl) (by kernel_rfl) (by kernel_rfl) (by kernel_rfl) ?_
  iterate 2 (refine wpM_mild rfl (fun K hK => ?_); go_simp; refine hK _ ?_; clear hK K)
  clear x_0 x_1 x_2 x_3 x_4 x_5 x_6 x_7 x_8 x_9
  clear y_0 y_1 y_2 y_3 y_4 y_5 y_6 y_7 y_8 y_9 y_10
  clear hc
  have hwd := (Later.refl w10n).drew
  refine wpM_nil (chain_u11 10 (Plain.of (by kernel_rfl)) 32 38 (by decide) (by decide) (by decide) (uc none 0 0 none 0 0 false false false false none 0 0 (0, 0, 0)) (jc (0, 0, 0, 0, 0) 0 0 none 0 0 (0, 0, 0)) Try.zero_unit Try.zero_job Try.info_unit Try.info_job (uc_nob _ _ _ _ _ _ _ _ _ _ _ _ _ _) (jc_nob _ _ _ _ _ _ _)
    (PdT 3 FD DD true false false true none 0 0 (0, 0, 0) cV 128 tD' RD.length RD (14, 29, 0)) (fun x y W h => h.one) (fun x y W W' hl h => h.later hl) (fun x y W g t cs vs hB hn _ h => h.set hB hn vs)
    (uval aF 3 cbF dF 2 cDF true false false true none 0 0 (0, 0, 0)) rfl (jval cV 128 0 ar15 0 cr15 (0, 0, 0)) rfl
    (fun v W => LitB w10n.drew W v (List.replicate 64 0)) rfl (fun v W W' hl h => h.later hl) (fun v W g t cs vs ht hB hn _ h => h.set ht hB vs 0) (fun W hW => lVal_makeB (.const (.int .i64 64)) (.const (.int .i64 64)) ⟨_, rfl, rfl, rfl, rfl⟩ 64 rfl rfl (by decide) w10n.drew hW.size (fun v W h => h))
    _
    ⟨_, rfl, rfl, rfl, rfl⟩ ⟨_, rfl, rfl, rfl, rfl⟩ ⟨_, rfl, rfl, rfl, rfl⟩ ⟨_, rfl, rfl, rfl, rfl⟩ ⟨_, rfl, rfl, rfl, rfl⟩ ⟨_, rfl, rfl, rfl, rfl⟩ ⟨_, rfl, rfl, rfl, rfl⟩ ⟨_, rfl, rfl, rfl, rfl⟩ (of_decide_eq_true (by kernel_rfl)) (by kernel_rfl) ?k4D ?k5D)
  case k4D =>
    intro W v0 hW h0
    exact take_pd iT RD.length W HAl.out.2.2.2.1 rfl ⟨_, _, _, _, _, rfl, MF.out.later (hwd.trans hW)⟩ (Jb.nil10 _ _ _ _ _) (h0.bs (by decide)) (by unfold OkC7; decide) ⟨by simp, by simp, by simp⟩ (by decide) (by decide) (by decide) (by rw [HAl.out.2.2.2.2.2.2.2.1]; decide) (by decide) (by decide)
  intro x y g17 g18 WD v0 hL hb1 hb2 hPd hg1 hg2
  obtain ⟨⟨aD, cbD, dD, kD, cDD, rfl, hm1⟩, arD, crD, rfl, hr1⟩ := hPd
  have hl := hwd.trans hL
  replace LL := hide (LL.out.trans hl)
  replace BB := hide (BB.out.later hl)
  replace B2 := hide (B2.out.later hl)
  replace Bg4 := hide (Bg4.out.later hl)
  replace Bg5 := hide (Bg5.out.later hl)
  replace MA := hide (MA.out.later hl)
  replace VA := hide (VA.out.later hl)
  replace Bg7 := hide (Bg7.out.later hl)
  replace Bg8 := hide (Bg8.out.later hl)
  replace Bg9 := hide (Bg9.out.later hl)
  replace MB := hide (MB.out.later hl)
  replace VB := hide (VB.out.later hl)
  replace MF := hide (MF.out.later hl)
  replace Bg10 := hide (Bg10.out.later hl)
  replace Bg11 := hide (Bg11.out.later hl)
  replace Bg14 := hide (Bg14.out.later hl)
  replace Bg15 := hide (Bg15.out.later hl)
  have Bg17 := hide hb1
  have Bg18 := hide hb2
  have MD := hide hm1
  have VD := hide hr1
  clear hl hwd hL hb1 hb2 hm1 hr1 hg1 hg2
  clear Bg17 MD VD
  go_wp2_with fail
  refine (iS (47, 1, 2, 0, 0) _ (by unfold OkC7; decide)).mono ?_
  rintro e w12 ⟨va, rfl, hl, ar19, cr19, rfl, hb⟩
  replace LL := hide (LL.out.trans hl)
  replace BB := hide (BB.out.later hl)
  replace B2 := hide (B2.out.later hl)
  replace Bg4 := hide (Bg4.out.later hl)
  replace Bg5 := hide (Bg5.out.later hl)
  replace MA := hide (MA.out.later hl)
  replace VA := hide (VA.out.later hl)
  replace Bg7 := hide (Bg7.out.later hl)
  replace Bg8 := hide (Bg8.out.later hl)
  replace Bg9 := hide (Bg9.out.later hl)
  replace MB := hide (MB.out.later hl)
  replace VB := hide (VB.out.later hl)
  replace MF := hide (MF.out.later hl)
  replace Bg10 := hide (Bg10.out.later hl)
  replace Bg11 := hide (Bg11.out.later hl)
  replace Bg14 := hide (Bg14.out.later hl)
  replace Bg15 := hide (Bg15.out.later hl)
  replace Bg18 := hide (Bg18.out.later hl)
  clear hl hb
  rw [start_no.1, show ([] : List UInt8).length = 0 from rfl]
  go_wp2_with (refine wpList_newJ rfl rfl rfl 19 rfl (by simp) (.tmp 97) (by simp) rfl (startC (47, 1, 2, 0, 0)) (startN (47, 1, 2, 0, 0)) 0 ar19 0 cr19 (0, 0, 0) rfl ?_)
  intro g19 w12n hB4 hl hg
  replace LL := hide (LL.out.trans hl)
  replace BB := hide (BB.out.later hl)
  replace B2 := hide (B2.out.later hl)
  replace Bg4 := hide (Bg4.out.later hl)
  replace Bg5 := hide (Bg5.out.later hl)
  replace MA := hide (MA.out.later hl)
  replace VA := hide (VA.out.later hl)
  replace Bg7 := hide (Bg7.out.later hl)
  replace Bg8 := hide (Bg8.out.later hl)
  replace Bg9 := hide (Bg9.out.later hl)
  replace MB := hide (MB.out.later hl)
  replace VB := hide (VB.out.later hl)
  replace MF := hide (MF.out.later hl)
  replace Bg10 := hide (Bg10.out.later hl)
  replace Bg11 := hide (Bg11.out.later hl)
  replace Bg14 := hide (Bg14.out.later hl)
  replace Bg15 := hide (Bg15.out.later hl)
  replace Bg18 := hide (Bg18.out.later hl)
  clear hl hB4 hg
  go_wp2_with fail
  refine (iS (42, 0, 0, 0, 0) _ (by unfold OkC7; decide)).mono ?_
  rintro e w13 ⟨va, rfl, hl, ar21, cr21, rfl, hb⟩
  replace LL := hide (LL.out.trans hl)
  replace BB := hide (BB.out.later hl)
  replace B2 := hide (B2.out.later hl)
  replace Bg4 := hide (Bg4.out.later hl)
  replace Bg5 := hide (Bg5.out.later hl)
  replace MA := hide (MA.out.later hl)
  replace VA := hide (VA.out.later hl)
  replace Bg7 := hide (Bg7.out.later hl)
  replace Bg8 := hide (Bg8.out.later hl)
  replace Bg9 := hide (Bg9.out.later hl)
  replace MB := hide (MB.out.later hl)
  replace VB := hide (VB.out.later hl)
  replace MF := hide (MF.out.later hl)
  replace Bg10 := hide (Bg10.out.later hl)
  replace Bg11 := hide (Bg11.out.later hl)
  replace Bg14 := hide (Bg14.out.later hl)
  replace Bg15 := hide (Bg15.out.later hl)
  replace Bg18 := hide (Bg18.out.later hl)
  clear hl hb
  rw [start_no.2, show ([] : List UInt8).length = 0 from rfl]
  go_wp2_with (refine wpList_newJ rfl rfl rfl 21 rfl (by simp) (.tmp 102) (by simp) rfl (startC (42, 0, 0, 0, 0)) (startN (42, 0, 0, 0, 0)) 0 ar21 0 cr21 (0, 0, 0) rfl ?_)
  intro g21 w13n hB4 hl hg
  replace LL := hide (LL.out.trans hl)
  replace BB := hide (BB.out.later hl)
  replace B2 := hide (B2.out.later hl)
  replace Bg4 := hide (Bg4.out.later hl)
  replace Bg5 := hide (Bg5.out.later hl)
  replace MA := hide (MA.out.later hl)
  replace VA := hide (VA.out.later hl)
  replace Bg7 := hide (Bg7.out.later hl)
  replace Bg8 := hide (Bg8.out.later hl)
  replace Bg9 := hide (Bg9.out.later hl)
  replace MB := hide (MB.out.later hl)
  replace VB := hide (VB.out.later hl)
  replace MF := hide (MF.out.later hl)
  replace Bg10 := hide (Bg10.out.later hl)
  replace Bg11 := hide (Bg11.out.later hl)
  replace Bg14 := hide (Bg14.out.later hl)
  replace Bg15 := hide (Bg15.out.later hl)
  replace Bg18 := hide (Bg18.out.later hl)
  clear hl hB4 hg
  go_wp2_with fail
  refine (iS cM _ (by unfold OkC7; decide)).mono ?_
  rintro e w14 ⟨va, rfl, hl, ar23, cr23, rfl, hb⟩
  replace LL := hide (LL.out.trans hl)
  replace BB := hide (BB.out.later hl)
  replace B2 := hide (B2.out.later hl)
  replace Bg4 := hide (Bg4.out.later hl)
  replace Bg5 := hide (Bg5.out.later hl)
  replace MA := hide (MA.out.later hl)
  replace VA := hide (VA.out.later hl)
  replace Bg7 := hide (Bg7.out.later hl)
  replace Bg8 := hide (Bg8.out.later hl)
  replace Bg9 := hide (Bg9.out.later hl)
  replace MB := hide (MB.out.later hl)
  replace VB := hide (VB.out.later hl)
  replace MF := hide (MF.out.later hl)
  replace Bg10 := hide (Bg10.out.later hl)
  replace Bg11 := hide (Bg11.out.later hl)
  replace Bg14 := hide (Bg14.out.later hl)
  replace Bg15 := hide (Bg15.out.later hl)
  replace Bg18 := hide (Bg18.out.later hl)
  clear hl hb
  rw [start_m.1, start_m.2.1, start_m.2.2, show ([] : List UInt8).length = 0 from rfl]
  go_wp2_with (refine wpList_newJ rfl rfl rfl 23 rfl (by simp) (.tmp 107) (by simp) rfl cM 24 0 ar23 0 cr23 (0, 0, 0) rfl ?_)
  intro g23 w14n hB4 hl hg
  replace LL := hide (LL.out.trans hl)
  replace BB := hide (BB.out.later hl)
  replace B2 := hide (B2.out.later hl)
  replace Bg4 := hide (Bg4.out.later hl)
  replace Bg5 := hide (Bg5.out.later hl)
  replace MA := hide (MA.out.later hl)
  replace VA := hide (VA.out.later hl)
  replace Bg7 := hide (Bg7.out.later hl)
  replace Bg8 := hide (Bg8.out.later hl)
  replace Bg9 := hide (Bg9.out.later hl)
  replace MB := hide (MB.out.later hl)
  replace VB := hide (VB.out.later hl)
  replace MF := hide (MF.out.later hl)
  replace Bg10 := hide (Bg10.out.later hl)
  replace Bg11 := hide (Bg11.out.later hl)
  replace Bg14 := hide (Bg14.out.later hl)
  replace Bg15 := hide (Bg15.out.later hl)
  replace Bg18 := hide (Bg18.out.later hl)
  have Bg23 := hide hB4
  clear hl hB4 hg
  go_wp2_with fail
  have hc := fun q => ((Later.refl w14n).drew.trans (later_rg w14n.drew q))
  have x_0 := fun q => (Bg10.out.later (hc q)).cell 0
  have x_1 := fun q => (Bg10.out.later (hc q)).cell 1
  have x_2 := fun q => (Bg10.out.later (hc q)).cell 2
  have x_3 := fun q => (Bg10.out.later (hc q)).cell 3
  have x_4 := fun q => (Bg10.out.later (hc q)).cell 4
  have x_5 := fun q => (Bg10.out.later (hc q)).cell 5
  have x_6 := fun q => (Bg10.out.later (hc q)).cell 6
  have x_7 := fun q => (Bg10.out.later (hc q)).cell 7
  have x_8 := fun q => (Bg10.out.later (hc q)).cell 8
  have x_9 := fun q => (Bg10.out.later (hc q)).cell 9
  have y_0 := fun q => (Bg23.out.later (hc q)).cell 0
  have y_1 := fun q => (Bg23.out.later (hc q)).cell 1
  have y_2 := fun q => (Bg23.out.later (hc q)).cell 2
  have y_3 := fun q => (Bg23.out.later (hc q)).cell 3
  have y_4 := fun q => (Bg23.out.later (hc q)).cell 4
  have y_5 := fun q => (Bg23.out.later (hc q)).cell 5
  have y_6 := fun q => (Bg23.out.later (hc q)).cell 6
  have y_7 := fun q => (Bg23.out.later (hc q)).cell 7
  have y_8 := fun q => (Bg23.out.later (hc q)).cell 8
  have y_9 := fun q => (Bg23.out.later (hc q)).cell 9
  have y_10 := fun q => (Bg23.out.later (hc q)).cell 10
  refine wp_region_bag3 [0, 1] [2, 3, 4, 5, 6, 7, 8, 9, 10, 11] [10, 11] (by kernel_rfl) (by kernel_rfl) (by kernel_rfl) (by kernel_rfl) ?_
  iterate 2 (refine wpM_mild rfl (fun K hK => ?_); go_simp; refine hK _ ?_; clear hK K)
  clear x_0 x_1 x_2 x_3 x_4 x_5 x_6 x_7 x_8 x_9
  clear y_0 y_1 y_2 y_3 y_4 y_5 y_6 y_7 y_8 y_9 y_10
  clear hc
  have hwd := (Later.refl w14n).drew
  refine wpM_nil (chain_u15 10 (Plain.of (by kernel_rfl)) 32 38 (by decide) (by decide) (by decide) (uc none 0 0 none 0 0 false false false false none 0 0 (0, 0, 0)) (jc (0, 0, 0, 0, 0) 0 0 none 0 0 (0, 0, 0)) Try.zero_unit Try.zero_job Try.info_unit Try.info_job (uc_nob _ _ _ _ _ _ _ _ _ _ _ _ _ _) (jc_nob _ _ _ _ _ _ _)
    (PdT 3 FE DE true false false true none 0 0 (0, 0, 0) cM 24 24 24 mM (0, 0, 0)) (fun x y W h => h.one) (fun x y W W' hl h => h.later hl) (fun x y W g t cs vs hB hn _ h => h.set hB hn vs)
    (uval aF 3 cbF dF 2 cDF true false false true none 0 0 (0, 0, 0)) rfl (jval cM 24 0 ar23 0 cr23 (0, 0, 0)) rfl
    (fun v W => LitB w14n.drew W v [0, 0, 0, 0, 8, 18]) rfl (fun v W W' hl h => h.later hl) (fun v W g t cs vs ht hB hn _ h => h.set ht hB vs 0) (fun W hW => lVal_litB 6 #[(0, .const (.int .u8 0)), (1, .const (.int .u8 0)), (2, .const (.int .u8 0)), (3, .const (.int .u8 0)), (4, .const (.int .u8 8)), (5, .const (.int .u8 18))] ⟨_, rfl, rfl, rfl, rfl⟩ [0, 0, 0, 0, 8, 18] w14n.drew hW.size rfl (fun o ho => by simp [execOp, ho]; go_simp; rfl) (fun v W h => h))
    (fun v W => Bs W v mM) rfl (fun v W W' hl h => h.later hl) (fun v W g t cs vs ht hB hn _ h => h.setNoB hB hn vs 0) (fun W v0 a2 f1 hW h0 => lVal_zerosB 18 (by decide) (by decide) (.tmp 112) ⟨_, rfl, rfl, rfl, rfl⟩ w14n.drew hW.size [0, 0, 0, 0, 8, 18] v0 f1 h0 (by decide) (fun v W h => h))
    _
    ⟨_, rfl, rfl, rfl, rfl⟩ ⟨_, rfl, rfl, rfl, rfl⟩ ⟨_, rfl, rfl, rfl, rfl⟩ ⟨_, rfl, rfl, rfl, rfl⟩ ⟨_, rfl, rfl, rfl, rfl⟩ ⟨_, rfl, rfl, rfl, rfl⟩ ⟨_, rfl, rfl, rfl, rfl⟩ ⟨_, rfl, rfl, rfl, rfl⟩ (of_decide_eq_true (by kernel_rfl)) (by kernel_rfl) ?k4E ?k5E)
  case k4E =>
    intro W v0 v1 hW h0 h1
    exact take_pd iT 24 W HAl.out.2.2.2.2.1 rfl ⟨_, _, _, _, _, rfl, MF.out.later (hwd.trans hW)⟩ (Jb.nil10 _ _ _ _ _) h1 (by unfold OkC7; decide) ⟨by simp, by simp, by simp⟩ (by decide) (by decide) (by decide) (by rw [HAl.out.2.2.2.2.2.2.2.1]; decide) (by decide) (by decide)
  intro x y g25 g26 WE v0 v1 hL hb1 hb2 hPd hg1 hg2
  obtain ⟨⟨aE, cbE, dE, kE, cDE, rfl, hm1⟩, arE, crE, rfl, hr1⟩ := hPd
  have hl := hwd.trans hL
  replace LL := hide (LL.out.trans hl)
  replace BB := hide (BB.out.later hl)
  replace B2 := hide (B2.out.later hl)
  replace Bg4 := hide (Bg4.out.later hl)
  replace Bg5 := hide (Bg5.out.later hl)
  replace MA := hide (MA.out.later hl)
  replace VA := hide (VA.out.later hl)
  replace Bg7 := hide (Bg7.out.later hl)
  replace Bg8 := hide (Bg8.out.later hl)
  replace Bg9 := hide (Bg9.out.later hl)
  replace MB := hide (MB.out.later hl)
  replace VB := hide (VB.out.later hl)
  replace MF := hide (MF.out.later hl)
  replace Bg10 := hide (Bg10.out.later hl)
  replace Bg11 := hide (Bg11.out.later hl)
  replace Bg14 := hide (Bg14.out.later hl)
  replace Bg15 := hide (Bg15.out.later hl)
  replace Bg18 := hide (Bg18.out.later hl)
  replace Bg23 := hide (Bg23.out.later hl)
  have Bg25 := hide hb1
  have Bg26 := hide hb2
  have ME := hide hm1
  have VE := hide hr1
  clear hl hwd hL hb1 hb2 hm1 hr1 hg1 hg2
  have x_0 := Bg25.out.cell 0
  have x_1 := Bg25.out.cell 1
  have x_2 := Bg25.out.cell 2
  have x_3 := Bg25.out.cell 3
  have x_4 := Bg25.out.cell 4
  have x_5 := Bg25.out.cell 5
  have x_6 := Bg25.out.cell 6
  have x_7 := Bg25.out.cell 7
  have x_8 := Bg25.out.cell 8
  have x_9 := Bg25.out.cell 9
  have y_0 := Bg26.out.cell 0
  have y_1 := Bg26.out.cell 1
  have y_2 := Bg26.out.cell 2
  have y_3 := Bg26.out.cell 3
  have y_4 := Bg26.out.cell 4
  have y_5 := Bg26.out.cell 5
  have y_6 := Bg26.out.cell 6
  have y_7 := Bg26.out.cell 7
  have y_8 := Bg26.out.cell 8
  have y_9 := Bg26.out.cell 9
  have y_10 := Bg26.out.cell 10
  go_wp2_with fail
  have hDE : DE.length ≤ 70 := by
    have h := tkD_len 3 FB DB true false true cM 24 0 [] (0, 0, 0) mM (by rw [HAl.out.2.2.2.2.2.2.2.1]; decide)
    rw [HAl.out.2.2.2.2.1] at h
    exact h
  have hFG := iF (uval aE 3 cbE dE kE cDE true false false true none 0 0 (0, 0, 0)) (jval cM 24 24 arE 24 crE (0, 0, 0)) 3 FE DE true false false true (0, 0, 0) cM 24 24 mM (0, 0, 0) _ ⟨_, _, _, _, _, rfl, ME.out⟩ (Jb.mk' VE.out) (by unfold OkC7; decide) ⟨by simp, by simp, by simp⟩ (by decide) (by decide) (by decide) hDE (by decide)
  rw [fE_f] at hFG
  refine hFG.mono ?_
  clear hFG
  rintro e w16 ⟨uu, rfl, hl, ⟨aG, cbG, dG, kG, cDG, rfl, hm1⟩⟩
  replace LL := hide (LL.out.trans hl)
  replace BB := hide (BB.out.later hl)
  replace B2 := hide (B2.out.later hl)
  replace Bg4 := hide (Bg4.out.later hl)
  replace Bg5 := hide (Bg5.out.later hl)
  replace MA := hide (MA.out.later hl)
  replace VA := hide (VA.out.later hl)
  replace Bg7 := hide (Bg7.out.later hl)
  replace Bg8 := hide (Bg8.out.later hl)
  replace Bg9 := hide (Bg9.out.later hl)
  replace MB := hide (MB.out.later hl)
  replace VB := hide (VB.out.later hl)
  replace MF := hide (MF.out.later hl)
  replace Bg10 := hide (Bg10.out.later hl)
  replace Bg11 := hide (Bg11.out.later hl)
  replace Bg14 := hide (Bg14.out.later hl)
  replace Bg15 := hide (Bg15.out.later hl)
  replace Bg18 := hide (Bg18.out.later hl)
  replace Bg23 := hide (Bg23.out.later hl)
  replace Bg25 := hide (Bg25.out.later hl)
  replace Bg26 := hide (Bg26.out.later hl)
  replace ME := hide (ME.out.later hl)
  replace VE := hide (VE.out.later hl)
  have MG := hide hm1
  clear hl hm1
  clear x_0 x_1 x_2 x_3 x_4 x_5 x_6 x_7 x_8 x_9
  clear y_0 y_1 y_2 y_3 y_4 y_5 y_6 y_7 y_8 y_9 y_10
  go_wp2_with (refine wpList_newUS rfl rfl rfl rfl rfl rfl 27 28 rfl rfl (by simp) (by simp) (by decide) (.tmp 121) (.tmp 122) (by simp) (by simp) (by simp) (by simp) rfl rfl rfl rfl aG 3 cbG dG kG cDG true false false false none 0 0 (0, 0, 0) rfl (0, 0, 0) rfl ?_)
  intro g27 g28 w16n hB8 hB9 hl hg
  replace LL := hide (LL.out.trans hl)
  replace BB := hide (BB.out.later hl)
  replace B2 := hide (B2.out.later hl)
  replace Bg4 := hide (Bg4.out.later hl)
  replace Bg5 := hide (Bg5.out.later hl)
  replace MA := hide (MA.out.later hl)
  replace VA := hide (VA.out.later hl)
  replace Bg7 := hide (Bg7.out.later hl)
  replace Bg8 := hide (Bg8.out.later hl)
  replace Bg9 := hide (Bg9.out.later hl)
  replace MB := hide (MB.out.later hl)
  replace VB := hide (VB.out.later hl)
  replace MF := hide (MF.out.later hl)
  replace Bg10 := hide (Bg10.out.later hl)
  replace Bg11 := hide (Bg11.out.later hl)
  replace Bg14 := hide (Bg14.out.later hl)
  replace Bg15 := hide (Bg15.out.later hl)
  replace Bg18 := hide (Bg18.out.later hl)
  replace Bg23 := hide (Bg23.out.later hl)
  replace Bg25 := hide (Bg25.out.later hl)
  replace Bg26 := hide (Bg26.out.later hl)
  replace ME := hide (ME.out.later hl)
  replace VE := hide (VE.out.later hl)
  replace MG := hide (MG.out.later hl)
  have Bg27 := hide hB8
  have Bg28 := hide hB9
  clear hl hB8 hB9 hg
  go_wp2_with fail
  have hc := fun q => ((Later.refl w16n).drew.trans (later_rg w16n.drew q))
  refine wp_region_text [false, false, false, false, false, false, false, false, false, false, false, false, false, false, false, false, false, false, false, false, false, false, false, false, false, false, false, false, false, false, false, false, false, false, false, false, false, false, false, false, false, false, false, false, false, false, false, false, false, false, false, false, false, false, false, false, false, false, false, false, false, false, false, false, false, false, false, false, false, false, false, false, false, false, false, false, false, false, false, false, false, false, false, false, false, false, false, false, false] (by kernel_rfl) (by kernel_rfl) (by kernel_rfl) (by kernel_rfl) ?_
  rw [show (List.range' 0 (List.length [false, false, false, false, false, false, false, false, false, false, false, false, false, false, false, false, false, false, false, false, false, false, false, false, false, false, false, false, false, false, false, false, false, false, false, false, false, false, false, false, false, false, false, false, false, false, false, false, false, false, false, false, false, false, false, false, false, false, false, false, false, false, false, false, false, false, false, false, false, false, false, false, false, false, false, false, false, false, false, false, false, false, false, false, false, false, false, false, false])).zip [false, false, false, false, false, false, false, false, false, false, false, false, false, false, false, false, false, false, false, false, false, false, false, false, false, false, false, false, false, false, false, false, false, false, false, false, false, false, false, false, false, false, false, false, false, false, false, false, false, false, false, false, false, false, false, false, false, false, false, false, false, false, false, false, false, false, false, false, false, false, false, false, false, false, false, false, false, false, false, false, false, false, false, false, false, false, false, false, false] = [(0, false), (1, false), (2, false), (3, false), (4, false), (5, false), (6, false), (7, false), (8, false), (9, false), (10, false), (11, false), (12, false), (13, false), (14, false), (15, false), (16, false), (17, false), (18, false), (19, false), (20, false), (21, false), (22, false), (23, false), (24, false), (25, false), (26, false), (27, false), (28, false), (29, false), (30, false), (31, false), (32, false), (33, false), (34, false), (35, false), (36, false), (37, false), (38, false), (39, false), (40, false), (41, false), (42, false), (43, false), (44, false), (45, false), (46, false), (47, false), (48, false), (49, false), (50, false), (51, false), (52, false), (53, false), (54, false), (55, false), (56, false), (57, false), (58, false), (59, false), (60, false), (61, false), (62, false), (63, false), (64, false), (65, false), (66, false), (67, false), (68, false), (69, false), (70, false), (71, false), (72, false), (73, false), (74, false), (75, false), (76, false), (77, false), (78, false), (79, false), (80, false), (81, false), (82, false), (83, false), (84, false), (85, false), (86, false), (87, false), (88, false)] from rfl]
  have cB2_5 := fun q => (B2.out.later (hc q)).cell 5
  have cBg4_1 := fun q => (Bg4.out.later (hc q)).cell 1
  have cBg5_6 := fun q => (Bg5.out.later (hc q)).cell 6
  have cBg5_7 := fun q => (Bg5.out.later (hc q)).cell 7
  have cBg7_0 := fun q => (Bg7.out.later (hc q)).cell 0
  have cBg7_1 := fun q => (Bg7.out.later (hc q)).cell 1
  have cBg7_2 := fun q => (Bg7.out.later (hc q)).cell 2
  iterate 41 (refine wpS_mild rfl (fun K hK => ?_); go_simp; refine hK _ ?_; clear hK K)
  refine wpS_call rfl (by kernel_rfl) 25 (Plain.of (by kernel_rfl)) [.const (.int .i64 5), .const (.int .i64 26), .const (.int .i64 0)] _ rfl [.int .i64 5, .int .i64 26, .int .i64 0] rfl (sval (5, 26, 0)) (fun wx hx => rof_c 5 26 0 wx) ?_
  refine wpS_eqG rfl (by kernel_rfl) 30 _ (.tmp 163) (.tmp 164) rfl _ _ rfl rfl Try.guard_sense true (fun w => sense_eq (5, 26, 0) (5, 26, 0) w) ?_
  clear cB2_5 cBg4_1 cBg5_6 cBg5_7 cBg7_0 cBg7_1 cBg7_2
  have cBg9_6 := fun q => (Bg9.out.later (hc q)).cell 6
  have cBg8_1 := fun q => (Bg8.out.later (hc q)).cell 1
  have cBg11_0 := fun q => (Bg11.out.later (hc q)).cell 0
  have cBg11_1 := fun q => (Bg11.out.later (hc q)).cell 1
  have cBg11_2 := fun q => (Bg11.out.later (hc q)).cell 2
  iterate 17 (refine wpS_mild rfl (fun K hK => ?_); go_simp; refine hK _ ?_; clear hK K)
  refine wpS_eqG rfl (by kernel_rfl) 30 _ (.tmp 181) (.tmp 182) rfl _ _ rfl rfl Try.guard_sense true (fun w => sense_eq (0, 0, 0) (0, 0, 0) w) ?_
  clear cBg9_6 cBg8_1 cBg11_0 cBg11_1 cBg11_2
  have cBg14_8 := fun q => (Bg14.out.later (hc q)).cell 8
  have cBg14_9 := fun q => (Bg14.out.later (hc q)).cell 9
  have cBg14_10 := fun q => (Bg14.out.later (hc q)).cell 10
  iterate 4 (refine wpS_mild rfl (fun K hK => ?_); go_simp; refine hK _ ?_; clear hK K)
  refine wpS_call rfl (by kernel_rfl) 25 (Plain.of (by kernel_rfl)) [.const (.int .i64 7), .const (.int .i64 39), .const (.int .i64 0)] _ rfl [.int .i64 7, .int .i64 39, .int .i64 0] rfl (sval (7, 39, 0)) (fun wx hx => rof_c 7 39 0 wx) ?_
  refine wpS_eqG rfl (by kernel_rfl) 30 _ (.tmp 187) (.tmp 188) rfl _ _ rfl rfl Try.guard_sense true (fun w => sense_eq (7, 39, 0) (7, 39, 0) w) ?_
  clear cBg14_8 cBg14_9 cBg14_10
  have cBg18_8 := fun q => (Bg18.out.later (hc q)).cell 8
  have cBg18_9 := fun q => (Bg18.out.later (hc q)).cell 9
  have cBg18_10 := fun q => (Bg18.out.later (hc q)).cell 10
  iterate 4 (refine wpS_mild rfl (fun K hK => ?_); go_simp; refine hK _ ?_; clear hK K)
  refine wpS_call rfl (by kernel_rfl) 25 (Plain.of (by kernel_rfl)) [.const (.int .i64 14), .const (.int .i64 29), .const (.int .i64 0)] _ rfl [.int .i64 14, .int .i64 29, .int .i64 0] rfl (sval (14, 29, 0)) (fun wx hx => rof_c 14 29 0 wx) ?_
  refine wpS_eqG rfl (by kernel_rfl) 30 _ (.tmp 193) (.tmp 194) rfl _ _ rfl rfl Try.guard_sense true (fun w => sense_eq (14, 29, 0) (14, 29, 0) w) ?_
  clear cBg18_8 cBg18_9 cBg18_10
  have cBg28_0 := fun q => (Bg28.out.later (hc q)).cell 0
  have cBg28_1 := fun q => (Bg28.out.later (hc q)).cell 1
  have cBg28_2 := fun q => (Bg28.out.later (hc q)).cell 2
  have cBg11_0 := fun q => (Bg11.out.later (hc q)).cell 0
  have cBg11_1 := fun q => (Bg11.out.later (hc q)).cell 1
  have cBg11_2 := fun q => (Bg11.out.later (hc q)).cell 2
  have cBg27_5 := fun q => (Bg27.out.later (hc q)).cell 5
  have cBg10_5 := fun q => (Bg10.out.later (hc q)).cell 5
  iterate 4 (refine wpS_mild rfl (fun K hK => ?_); go_simp; refine hK _ ?_; clear hK K)
  refine wpS_eqG rfl (by kernel_rfl) 30 _ (.tmp 198) (.tmp 199) rfl _ _ rfl rfl Try.guard_sense true (fun w => sense_eq (0, 0, 0) (0, 0, 0) w) ?_
  iterate 11 (refine wpS_mild rfl (fun K hK => ?_); go_simp; refine hK _ ?_; clear hK K)
  refine wpS_nil (fun wx hwx => ?_)
  replace LL := hide (LL.out.trans ((Later.refl w16n).drew.trans hwx))
  clear hwx hc
  clear cBg28_0 cBg28_1 cBg28_2 cBg11_0 cBg11_1 cBg11_2 cBg27_5 cBg10_5
  go_wp2
  go_ret
  exact ⟨by first | rfl | simp, LL.out⟩
end Go.Proofs.Ytbcikndebaeahaa
