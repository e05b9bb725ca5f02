import Derived.Test.YtkbpecbpfajkfaaMAM
import Derived.Test.YtkbpecbpfajkfaaMAO
import Derived.Test.YtkbpecbpfajkfaaMAP
import Derived.Test.YtkbpecbpfajkfaaMAT
import Derived.Test.YtkbpecbpfajkfaaMAU
import Derived.Test.YtkbpecbpfajkfaaMAF
namespace Go.Proofs.Ytkbpecbpfajkfaa
open Go.ChangeShapes Go.WideShapes Go.ChangeAt Go.RowKit
set_option linter.unusedVariables false
set_option linter.unusedSimpArgs false

/-! What is put is shown. -/
theorem put_shows {n : Nat} {F : List UInt8} {D : List Drt} (k : Nat) (X : List UInt8) (th : Bool) (h : rightB n D = true) (ho : Ok D) (hF : F.length = n * 64) (hk : k < n) (hX : X.length = 64) :
    rightB n (wrD n D k X th) = true ∧ seg (app (wrF n F D k X th) (wrD n D k X th)) (k * 64) 64 = X := by
  have hf := fit_of_right h ho
  have e : wrE n D k = 0 := by simp only [wrE, h, if_true]; rw [if_pos (by omega)]
  have hd : ((k : Int), X).2.length = 64 ∧ 0 ≤ ((k : Int), X).1 ∧ ((k : Int), X).1 < n := ⟨hX, by simp, by simpa using hk⟩
  cases th with
  | true =>
    have hl := app_length n _ F hF (hf.filter (inR k (k + 1)))
    have hl2 := over_len hd hl
    have eF : wrF n F D k X true = over (app F (D.filter (inR k (k + 1)))) (((k : Int), X).1.toNat * 64) X := by simp [wrF, e]
    have eD : wrD n D k X true = D.filter fun d => !inR k (k + 1) d := by simp [wrD, e]
    refine ⟨by rw [eD]; exact right_filter h _, ?_⟩
    have hb := blk_app_else k (D.filter fun d => !inR k (k + 1) d) _ hl2 (hf.filter _) (fun d hd => ?_)
    · rw [eF, eD]
      show blk _ k = X
      rw [hb, blk_over hd hl k, if_pos rfl]
    · have := (List.mem_filter.1 hd).2
      simp [inR] at this
      intro h; omega
  | false =>
    have hr := (right_iff n D).1 h
    by_cases h64 : D.length = 64
    · have eF : wrF n F D k X false = app F D := by simp [wrF, e, h64, (inR_all hf).1]
      have eD : wrD n D k X false = [((k : Int), X)] := by simp [wrD, e, h64, (inR_all hf).2]
      refine ⟨?_, ?_⟩
      · rw [eD, right_iff]
        refine ⟨hr.1, by simp, fun d hd => ?_⟩
        simp at hd
        subst hd
        exact ⟨by simp, by simpa using hk⟩
      · rw [eF, eD]
        show blk (over (app F D) (((k : Int), X).1.toNat * 64) X) k = X
        rw [blk_over hd (app_length n D F hF hf) k, if_pos rfl]
    · have eF : wrF n F D k X false = F := by simp [wrF, e, h64]
      have eD : wrD n D k X false = D ++ [((k : Int), X)] := by simp [wrD, e, h64]
      refine ⟨?_, ?_⟩
      · rw [eD, right_iff]
        refine ⟨hr.1, by simp; omega, fun d hd => ?_⟩
        rcases List.mem_append.1 hd with hd | hd
        · exact hr.2.2 d hd
        · simp at hd
          subst hd
          exact ⟨by simp, by simpa using hk⟩
      · rw [eF, eD, app_snoc]
        show blk (over (app F D) (((k : Int), X).1.toNat * 64) X) k = X
        rw [blk_over hd (app_length n D F hF hf) k, if_pos rfl]
/-- where a put is good, its block is read -/
theorem put_facts {n : Nat} {F : List UInt8} {D : List Drt} {p r : Bool} {at_ : Int} {X : List UInt8} {th : Bool} (ho : Ok D) (hF : F.length = n * 64) (hX : X.length = 64) (h : putS n D p r at_ = (0, 0, 0)) :
    ∃ z : Nat, at_ = (z : Int) ∧ z < n ∧ checkS n (ptD n D (0, 0, 0) at_ X th) p r z 1 false = (0, 0, 0) ∧ rdL n (ptF n F D (0, 0, 0) at_ X th) (ptD n D (0, 0, 0) at_ X th) (0, 0, 0) z 1 = X := by
  unfold putS at h
  split at h
  · have := put_neg (n := n) (D := D) (p := p) (r := r)
    rw [h] at this
    exact absurd this (by decide)
  · rename_i hn
    obtain ⟨z, rfl⟩ := Int.eq_ofNat_of_zero_le (show 0 ≤ at_ by omega)
    have hc := checkS_zero h
    rw [Int.toNat_natCast] at hc
    have hR : rightB n D = true := by
      cases hR : rightB n D with
      | true => rfl
      | false =>
        have := hc.2.2
        simp only [withinB, decide_eq_true_eq, allN, hR] at this
        have h2 := this.2.1
        simp at h2
    have hz : z < n := by
      have := hc.2.2
      simp only [withinB, decide_eq_true_eq, allN, hR, if_true] at this
      omega
    obtain ⟨q1, q2⟩ := put_shows z X th hR ho hF hz hX
    refine ⟨z, rfl, hz, ?_, ?_⟩
    · have hw : withinB (allN n (wrD n D z X th)) z 1 = true := by
        simp only [withinB, decide_eq_true_eq, allN, q1, if_true]; omega
      show checkS n (wrD n D z X th) p r z 1 false = (0, 0, 0)
      simp [checkS, hc.1, hw]
    · show (if ((0, 0, 0) : Sns) == (0, 0, 0) then seg (allF n (wrF n F D z X th) (wrD n D z X th)) (z * 64) ((1 : Int).toNat * 64) else []) = X
      simp only [allF, q1, if_true]
      exact q2
theorem put_small {n : Nat} {F : List UInt8} {D : List Drt} {p r : Bool} {at_ : Int} {X : List UInt8} {th : Bool} (S : Sns) (h : D.length ≤ 70) : (ptD n D S at_ X th).length ≤ 100 := by
  unfold ptD
  split
  · unfold wrD
    split
    · split
      · have := List.length_filter_le (fun d => !inR at_ (at_ + 1) d) D
        omega
      · split
        · have := List.length_filter_le (fun d => !inR 0 n d) D
          simp only [List.length_append, List.length_cons, List.length_nil]
          omega
        · simp only [List.length_append, List.length_cons, List.length_nil]
          omega
    · simp
  · omega
end Go.Proofs.Ytkbpecbpfajkfaa

namespace Go.Proofs.Ytkbpecbpfajkfaa
open Go.ChangeShapes Go.WideShapes Go.ChangeAt Go.RowKit
set_option linter.unusedVariables false
set_option linter.unusedSimpArgs false

/-! The fixed fact of layer 5: what it stands on. -/
set_option maxHeartbeats 400000 in
theorem lfilled5_c (c : UInt8) (w : World) :
    Calls Try.prog 37 #[.int .u8 (c.toNat : Int)] w fun e w' => e = .returned (.agg (bv (List.replicate 64 c)).toArray) ∧ Later w w' := by
  go_enter Try.func37, Try.ntmps37
  go_wp2
  go_loopw [4] (fun i wr => ∃ k : Nat, k ≤ 64 ∧ i = .int .i64 k ∧ Hid (∃ zs, zs.length = 64 ∧ Box wr w.heap.size 50 zs) ∧ Hid (Box wr (w.heap.size + 1) 50 (bv (fillP c 64 k))) ∧ Hid (Later w wr)) (fun i _ => 64 - (intOf i).toNat)
  case atStart =>
    refine ⟨0, Nat.zero_le _, rfl, ?_, ?_, ?_⟩
    · exact ⟨_, rfl, (Box.new w _ _).alloc _⟩
    · rw [fillP_zero, zeros64]
      exact Box.new' (w.alloc _) _ _ _ rfl _ (by simp)
    · exact ((Later.refl w).alloc _).alloc _
  case round =>
    obtain ⟨k, hk, rfl, hz, hbox, hlat⟩ := hrel
    by_cases hlt : k < 64
    · have hst := hide (fillP_set c 64 k hlt)
      have hlen := fillP_length c 64 k (by omega)
      obtain ⟨u, hcell⟩ : ∃ u : Value, wr.cell? ⟨w.heap.size + 1, k, none⟩ = some u := by
        rw [hbox.out.cell k]
        exact ⟨_, List.getElem?_eq_getElem (by rw [bv_length, hlen]; exact hlt)⟩
      have hfz := hbox.out.frozen k
      clear hlen
      go_wp2
      go_roundw
      case rel =>
        refine ⟨k + 1, by omega, by go_num, ?_, ?_, ?_⟩
        · obtain ⟨zs, h1, h2⟩ := hz.out
          exact ⟨zs, h1, h2.other _ _ (by simp)⟩
        · unfold Hid
          rw [hst.out, bv_set]
          exact hbox.out.set k _
        · exact hlat.out.setCell (by simp) _
      case measure => simp [intOf]; omega
    · have hk64 : k = 64 := by omega
      rw [hk64, fillP_all] at hbox
      generalize hX : List.replicate 64 c = X at *
      have hsl : X.length = 64 := by rw [← hX]; simp
      have HX := hide hX
      clear hX
      obtain ⟨zs, hzl, hzb⟩ := hz.out
      clear hk64 hz
      have hth := hzb.there 0 64 (by omega)
      have hbl : (bv X).toArray.size = 64 := by simp [bv_length, hsl]
      have Hb := hzb.setCells (bv X) 0 (by rw [bv_length]; omega)
      have HB : Hid (Box (wr.setCells w.heap.size 0 (bv X)) w.heap.size 50 (bv X)) := by
        have e : zs.take 0 ++ bv X ++ zs.drop (0 + (bv X).length) = bv X := by
          rw [bv_length, hsl, List.drop_of_length_le (by omega)]; simp
        rwa [e] at Hb
      have HL := hide (hlat.out.setCells (Nat.le_refl _) (bv X) 0)
      have hbx := hide hbox.out.range
      have HTH := hide hth
      have HSZ := hide hbl
      have HSL := hide hsl
      clear Hb hzb hzl hsl hth hbl hbox hlat
      go_wp2_with (first
        | refine wpList_load_mid rfl 50 (.tmp 3) rfl (w.heap.size + 1) 0 rfl (bv X) _ hbx.out Try.underlying50 rfl (by rw [Try.info_block, bv_length, HSL.out]) ?_
        | refine wpList_store_mid rfl 50 (.tmp 2) (.tmp 12) rfl w.heap.size 0 (bv X).toArray rfl rfl (by rw [HSZ.out]; exact HTH.out) (by rw [HSZ.out]; exact Try.info_block) (all_oneCell_toArray (bv_one _)) ?_)
      refine bodyPost_ret (results_cell1 rfl _ _ _ w.heap.size 0 rfl (.agg (bv X).toArray) (run_loadVar_mid _ _ _ _ _ _ HB.out.range Try.underlying50 rfl (by rw [Try.info_block, bv_length, HSL.out]))) rfl ⟨by rw [HX.out], HL.out⟩


theorem al5_facts (F X : List UInt8) (hF : F.length = 3 * 64) (hX : X.length = 64) :
    (putS 3 [] true false 1 = (0, 0, 0) ∧ ptF 3 F [] (0, 0, 0) 1 X false = F ∧ ptD 3 [] (0, 0, 0) 1 X false = [((1 : Int), X)]) ∧
    (swF true false 3 F [((1 : Int), X)] = app F [((1 : Int), X)] ∧ swD true false 3 [((1 : Int), X)] = []) ∧ putS 3 [] true true 1 = (7, 39, 0) ∧
    (checkS 3 [] true true 1 1 false = (0, 0, 0) ∧ rdL 3 (app F [((1 : Int), X)]) [] (0, 0, 0) 1 1 = X) ∧ checkS 3 [((1 : Int), X)] true false 3 1 false = (5, 33, 0) ∧
    (pwF 3 F [((1 : Int), X)] 0 = F ∧ pwD 3 [((1 : Int), X)] = []) ∧ syncD 3 [((1 : Int), X)] = [] := by
  have hR0 : rightB 3 ([] : List Drt) = true := by simp [rightB]
  have hR1 : rightB 3 [((1 : Int), X)] = true := by simp [rightB]
  have d1 : ((1 : Int), X).2.length = 64 ∧ 0 ≤ ((1 : Int), X).1 ∧ ((1 : Int), X).1 < (3 : Nat) := ⟨hX, by simp, by simp⟩
  have e1 : wrE 3 [] 1 = 0 := by simp [wrE, hR0]
  refine ⟨⟨?_, ?_, ?_⟩, ⟨?_, ?_⟩, ?_, ⟨?_, ?_⟩, ?_, ⟨?_, ?_⟩, ?_⟩
  · simp [putS, checkS, withinB, allN, hR0]
  · show wrF 3 F [] 1 X false = F
    simp [wrF, e1]
  · show wrD 3 [] 1 X false = _
    simp [wrD, e1]
  · simp [swF, syncF, hR1]
  · simp [swD, syncD, hR1]
  · simp [putS, checkS]
  · simp [checkS, withinB, allN, hR0]
  · show seg (allF 3 (app F [((1 : Int), X)]) []) (1 * 64) ((1 : Int).toNat * 64) = X
    simp only [allF, hR0, if_true]
    show blk (over F (((1 : Int), X).1.toNat * 64) ((1 : Int), X).2) 1 = X
    rw [blk_over d1 hF 1, if_pos (by simp)]
  · simp [checkS, withinB, allN, hR1]
  · simp [pwF, hR1, pickM, app]
  · simp [pwD, hR1]
  · simp [syncD, hR1]
theorem field_medium (w : World) (a3 a6 : Option Addr) (n c3 m c6 : Nat) (p r l : Bool) : Sem.run Try.prog (Instr.field 27 (.agg #[.slice a3 n c3, .slice a6 m c6, .bool p, .bool r, .bool l]) 0) w = .ok (.agg #[.slice a3 n c3, .slice a6 m c6]) w := by
  rfl
theorem field_dirty (w : World) (a3 a6 : Option Addr) (n c3 m c6 : Nat) : Sem.run Try.prog (Instr.field 25 (.agg #[.slice a3 n c3, .slice a6 m c6]) 1) w = .ok (.slice a6 m c6) w := by
  rfl
end Go.Proofs.Ytkbpecbpfajkfaa
