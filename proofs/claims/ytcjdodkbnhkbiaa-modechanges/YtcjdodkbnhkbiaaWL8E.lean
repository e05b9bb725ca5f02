import Derived.Deep.Cut
import Derived.Test.YtcjdodkbnhkbiaaMAP
import Derived.Test.YtcjdodkbnhkbiaaMAD
namespace Go.Proofs.Ytcjdodkbnhkbiaa
open Go.ChangeShapes Go.WideShapes Go.ChangeAt Go.RowKit
set_option linter.unusedVariables false
set_option linter.unusedSimpArgs false

def bitB (c : Bool) (q j : Nat) : UInt8 := (pg8 c).getD (2 + q) 0 ^^^ (1 <<< (UInt8.ofNat j))
theorem xor_all : ∀ (q : Fin 18) (j : Fin 8) (c : Bool), bits BinOp.xor IntKind.u8 (Bn (pg8 c) (2 + q.1) : Int) (2 ^ j.1 % 256) = ((bitB c q.1 j.1).toNat : Int) := by decide +kernel
theorem and_all : ∀ (q : Fin 18) (j : Fin 8), (bits BinOp.and IntKind.u8 ((Bn (pg8 true) (2 + q.1) : Int) / 2 ^ j.1) 1 == 0) = !(decide (q.1 = 0 ∧ j.1 = 2)) := by decide +kernel
def chgL (c : Bool) (q j : Nat) : List UInt8 := (0 :: 0 :: 0 :: 0 :: pg8 c).set (4 + (2 + q)) (bitB c q j)
theorem chg_all : ∀ (q : Fin 18) (j : Fin 8) (c : Bool), selR (chgL c q.1 j.1) false c = if q.1 = 0 ∧ j.1 = 2 then (!c, (0, 0, 0)) else (false, (5, 38, 0)) := by decide +kernel
set_option maxRecDepth 20000 in
set_option maxHeartbeats 4000000 in
theorem modeChanges_walk (hal : Alive8) (iP : IPage8) (iS : ISel8) (at_ bit : Nat) (hat : at_ < 256) (hbit : bit < 256) (caching : Bool) (w : World) :
    Calls Try.prog 6 #[.int .u8 (at_ : Int), .int .u8 (bit : Int), .bool caching] w fun e w' => e = .returned (.bool true) ∧ Below w.heap.size w w' := by
  have LL := hide (Later.refl w)
  go_enter Try.func6, Try.ntmps6
  go_wp2_with fail
  refine (hal _).mono ?_
  rintro e w1 ⟨rfl, hl⟩
  replace LL := hide (LL.out.trans hl)
  clear hl
  go_wp2_with fail
  refine (iP 8 0 caching (by decide) (by decide) _).mono ?_
  rintro e w2 ⟨vp, rfl, hl, hv⟩
  rw [show mpL 8 0 caching = pg8 caching from by simp [mpL, vB]] at hv
  rw [show mpB 8 = true from rfl]
  replace LL := hide (LL.out.trans hl)
  have VP := hide hv
  clear hl hv
  go_wp2_with fail
  refine (iP 8 1 caching (by decide) (by decide) _).mono ?_
  rintro e w3 ⟨vm, rfl, hl, hv⟩
  rw [show mpL 8 1 caching = pg8 true from by simp [mpL, vB]] at hv
  rw [show mpB 8 = true from rfl]
  replace LL := hide (LL.out.trans hl)
  replace VP := hide (VP.out.later hl)
  have VM := hide hv
  clear hl hv
  obtain ⟨bp, op, cp, rfl, hcp⟩ := VP.out.cells6 (n := 20) rfl (by decide)
  obtain ⟨bm, om, cm, rfl, hcm⟩ := VM.out.cells6 (n := 20) rfl (by decide)
  have HCP := hide hcp
  have HCM := hide hcm
  clear hcp hcm
  obtain ⟨q, hq⟩ : ∃ q : Nat, ((at_ : Int)).tmod 18 = (q : Int) ∧ q < 18 := ⟨at_ % 18, by rw [Int.tmod_eq_emod_of_nonneg (by omega)]; omega, by omega⟩
  obtain ⟨j, hj⟩ : ∃ j : Nat, ((bit : Int)).tmod 8 = (j : Int) ∧ j < 8 := ⟨bit % 8, by rw [Int.tmod_eq_emod_of_nonneg (by omega)]; omega, by omega⟩
  obtain ⟨hq1, hq2⟩ := hq
  obtain ⟨hj1, hj2⟩ := hj
  go_wp2_with (at_builtin; refine wpList_append_bs rfl (.tmp 47) (.tmp 48) rfl w3.heap.size _ 4 [0, 0, 0, 0] rfl (owns_box (Box.new w3 5 #[.int .u8 0, .int .u8 0, .int .u8 0, .int .u8 0]) rfl (by decide) (Nat.le_refl _)) _ (pg8 caching) rfl (VP.out.later ((Later.refl w3).alloc _)) (by simp [pg8]) (by simp) w3 ((Later.refl w3).alloc _) ?_)
  intro v5 w5 ho hb hg
  have L5 : Hid (Later w3 w5) := hb
  have OX : Hid (w5.ownsRow w3.heap.size 5 1 v5 24 (bv (0 :: 0 :: 0 :: 0 :: pg8 caching))) := ho
  clear ho hb hg
  have OL := OX.out
  rcases OX.out.2 with ⟨_, h0⟩ | ⟨g, cap, cur, rfl, hbg, hg, hcc, hmm, hs, ht⟩
  · simp at h0
  clear hcc hmm hs ht hg cur OL
  have x1 := HCP.out (2 + q) (by omega) _ L5.out
  obtain ⟨u2, x2⟩ : ∃ u : Value, w5.cell? ⟨g, 4 + (2 + q), none⟩ = some u := by
    rw [OX.out.cellAt (4 + (2 + q)) (by omega)]
    exact ⟨_, List.getElem?_eq_getElem (by rw [bv_length]; simp [pg8]; omega)⟩
  have x3 := OX.out.frozenAt (4 + (2 + q))
  have hbx := xor_all ⟨q, hq2⟩ ⟨j, hj2⟩ caching
  simp only at hbx
  go_wp2_with fail
  have LS : Hid (Later w3 (w5.setCell ⟨g, 4 + (2 + q), none⟩ (.int .u8 ((bitB caching q j).toNat : Int)))) := L5.out.setCell hbg _
  have OS : Hid ((w5.setCell ⟨g, 4 + (2 + q), none⟩ (.int .u8 ((bitB caching q j).toNat : Int))).ownsRow w3.heap.size 5 1 (.slice (some ⟨g, 0, none⟩) 24 cap) 24 (bv (chgL caching q j))) := by
    have := (OX.out.stored (4 + (2 + q)) (.int .u8 ((bitB caching q j).toNat : Int))).1
    rw [Hid, chgL, bv_set]
    exact this
  generalize w5.setCell ⟨g, 4 + (2 + q), none⟩ (.int .u8 ((bitB caching q j).toNat : Int)) = w6 at *
  have VS := hide (Bs.of_owns OS.out).1
  replace LL := hide (LL.out.trans LS.out)
  replace HCM : Hid (∀ (i : Nat), i < 20 → ∀ (W : World), Later w6 W → W.cell? ⟨bm, om + i, none⟩ = some (Value.int .u8 ↑(Bn (pg8 true) i))) := fun i hi W hW => HCM.out i hi W (LS.out.trans hW)
  clear OS OX L5 LS x1 x2 x3 hbx HCP VP VM
  refine (iS _ (chgL caching q j) false caching _ VS.out (by simp [chgL, pg8])).mono ?_
  rintro e w7 ⟨rfl, hl⟩
  rw [show selR (chgL caching q j) false caching = _ from chg_all ⟨q, hq2⟩ ⟨j, hj2⟩ caching]
  simp only
  replace LL := hide (LL.out.trans hl)
  have L7 := hide hl
  clear hl VS
  generalize hp : (if q = 0 ∧ j = 2 then (!caching, ((0, 0, 0) : Sns)) else (false, (5, 38, 0))) = pr at *
  have HP := hide hp
  clear hp
  obtain ⟨xr, s⟩ := pr
  simp only
  go_wp2_with (refine wpList_newAS rfl rfl rfl rfl 14 13 rfl rfl (by simp) (by decide) (.tmp 66) (.tmp 67) (by simp) (by simp) (by simp) rfl rfl rfl _ s rfl rfl ?_)
  intro g14 w8 hB hl hg
  replace LL := hide (LL.out.trans hl)
  have S14 := hide hB
  have m1 := HCM.out (2 + q) (by omega) _ (L7.out.trans hl)
  clear hl hg hB L7 HCM
  go_upto_region 11 with fail
  simp only [Act.put, List.setIfInBounds_toArray, List.set_cons_succ, List.set_cons_zero]
  have HW : Hid (Later w w8 ∧ Box w8 g14 28 (sc s)) := ⟨LL.out, S14.out⟩
  clear LL S14
  go_cut [76] from 68 (fun x W => x = .bool (!(decide (q = 0 ∧ j = 2))) ∧ Hid (Later w W ∧ Box W g14 28 (sc s)))
  case first =>
    go_wp2
    go_meet
    refine ⟨?_, HW⟩
    exact congrArg _ (and_all ⟨q, hq2⟩ ⟨j, hj2⟩)
  case rest =>
  clear HW
  obtain ⟨hx, HW⟩ := hcut
  have LL := hide HW.out.1
  have S14 := hide HW.out.2
  clear HW
  by_cases hqj : q = 0 ∧ j = 2
  · rw [decide_eq_true hqj] at hx
    have hP := HP.out
    rw [if_pos hqj] at hP
    simp only [Prod.mk.injEq] at hP
    obtain ⟨rfl, rfl⟩ := hP
    simp only [Bool.not_true] at hx
    subst hx
    clear HP hqj
    have s0 := S14.out.cell 0
    have s1 := S14.out.cell 1
    have s2 := S14.out.cell 2
    go_wp2_with (refine wpList_eqS8 (by kernel_rfl) (.tmp 84) (.tmp 85) rfl (0, 0, 0) (0, 0, 0) rfl rfl true rfl ?_)
    go_ret
    exact ⟨by cases caching <;> rfl, LL.out⟩
  · rw [decide_eq_false hqj] at hx
    have hP := HP.out
    rw [if_neg hqj] at hP
    simp only [Prod.mk.injEq] at hP
    obtain ⟨rfl, rfl⟩ := hP
    simp only [Bool.not_false] at hx
    subst hx
    clear HP hqj
    go_wp2_with fail
    have hc := fun r => ((Later.refl wc).drew.trans (later_rg wc.drew r))
    have s0 := fun r => (S14.out.later (hc r)).cell 0
    have s1 := fun r => (S14.out.later (hc r)).cell 1
    have s2 := fun r => (S14.out.later (hc r)).cell 2
    refine wp_region_sched ((List.range 8).map fun i => (i, false)) (by kernel_rfl) (by kernel_rfl) (by kernel_rfl) (by kernel_rfl) ?_
    simp only [List.range, List.range.loop, List.map, List.cons_append, List.nil_append]
    iterate 1 (refine wpS_mild rfl (fun K hK => ?_); go_simp; refine hK _ ?_; clear hK K)
    refine wpS_call rfl (by kernel_rfl) 15 (Plain.of (by kernel_rfl)) [.const (.int .i64 5), .const (.int .i64 38), .const (.int .i64 0)] _ rfl [.int .i64 5, .int .i64 38, .int .i64 0] rfl (sval (5, 38, 0)) (fun wx hx => rof_c 5 38 0 wx) ?_
    refine wpS_eqG rfl (by kernel_rfl) 28 _ (.tmp 77) (.tmp 78) rfl _ _ rfl rfl Try.guard_sense true (fun w => sense_eq (5, 38, 0) (5, 38, 0) w) ?_
    iterate 5 (refine wpS_mild rfl (fun K hK => ?_); go_simp; refine hK _ ?_; clear hK K)
    refine wpS_nil (fun wx hwx => ?_)
    have F := hide (LL.out.trans ((Later.refl wc).drew.trans hwx))
    clear hwx s0 s1 s2 hc
    go_wp2
    go_ret
    exact ⟨rfl, F.out⟩
end Go.Proofs.Ytcjdodkbnhkbiaa
