import Derived.Test.YtphgjofiploahaaR3d
namespace Go.Proofs.Ytphgjofiploahaa
open Go.ChangeShapes Go.WideShapes Go.ChangeAt Go.RowKit
set_option linter.unusedVariables false
set_option linter.unusedSimpArgs false

def showE (n : Nat) (D : List Drt) (at_ : Int) : Int := if rightB n D then (if 0 ≤ at_ ∧ at_ < n then 0 else 5) else 1
def showL (n : Nat) (F : List UInt8) (D : List Drt) (at_ : Int) : List UInt8 := if rightB n D = true ∧ 0 ≤ at_ ∧ at_ < n then seg (app F D) (at_.toNat * 64) 64 else List.replicate 64 0

/-- two results, the first one in a variable of its own -/
theorem results_cell_tmp {fn : Func} {p q : Tmp} {ty : TypeId} (h : fn.results = #[.cell p ty, .tmp q]) (tmps : Array Value) (P : Program) (w : World) (b o : Nat) (hp : tmps.getD p undef = .pointer (some ⟨b, o, none⟩)) (v u : Value) (hl : (loadVar ty ⟨b, o, none⟩).run P w = .ok v w) (hq : tmps.getD q undef = u) :
    (results fn tmps).run P w = .ok (.tuple #[v, u]) w := by
  have ha : (asAddr (tmps.getD p undef)).run P w = .ok ⟨b, o, none⟩ w := by rw [hp]; rfl
  simp only [results, h]
  simp only [List.mapM_toArray, Sem.run_bind]
  simp [ha, hl, hq, -Array.getD_eq_getD_getElem?]
theorem Box.all {w : World} {g : Nat} {t : TypeId} {xs : List Value} (h : Box w g t xs) (vs : List Value) (hl : vs.length = xs.length) : Box (w.setCells g 0 vs) g t vs := by
  have := h.setCells vs 0 (by omega)
  rw [List.take_zero, List.nil_append, List.drop_of_length_le (by omega), List.append_nil] at this
  exact this

def z64L : List UInt8 := List.replicate 64 0
theorem z64L_is : (Array.replicate 64 (Value.int .u8 0)).toList = bv z64L := by rw [z64L, bv_replicate]; simp

set_option maxHeartbeats 1000000 in
theorem rshow_c {v : Value} {n : Nat} {F : List UInt8} {D : List Drt} (at_ : Int) (w : World) (h : Med w v n F D) :
    Calls Try.prog 14 #[v, .int .i64 at_] w fun e w' => e = .returned (.tuple #[.agg (bv (showL n F D at_)).toArray, .int .i64 (showE n D at_)]) ∧ Later w w' := by
  have HM := hide h
  obtain ⟨vb, vd, rfl, hb, hd, hok⟩ := h
  obtain ⟨ab, cb, rfl⟩ := hb.shape
  obtain ⟨k, hk⟩ : ∃ k, k = D.length := ⟨_, rfl⟩
  rw [← hk] at hd
  obtain ⟨aD, cD, rfl⟩ := hd.shape
  have hnm := hb.2.1
  unfold maxLen at hnm
  have HFl : Hid (F.length = n * 64) := by have := hb.1; rwa [bv_length] at this
  have HO := hide hok
  clear hb hd hk hok
  go_enter Try.func14, Try.ntmps14
  go_wp2_with fail
  refine (rright_c _ (HM.out.later (((Later.refl w).alloc _).alloc _))).mono ?_
  rintro e w2 ⟨rfl, hl2⟩
  have L2 : Hid (Later w w2) := Later.trans (((Later.refl w).alloc _).alloc _) hl2
  have BX : Hid (Box w2 w.heap.size 25 [.slice ab n cb, .slice aD k cD]) := Box.later ((Box.new w 25 #[.slice ab n cb, .slice aD k cD]).alloc _) hl2
  have BR : Hid (Box w2 (w.heap.size + 1) 27 (bv z64L)) := Box.later (Box.new' _ _ _ _ z64L_is _ (by simp)) hl2
  clear hl2
  have d0 := BX.out.cell 0
  have d1 := BX.out.cell 1
  by_cases hR : rightB n D = true
  case neg =>
    have hR' : rightB n D = false := by simpa using hR
    rw [hR']
    have ht : Hid (w2.there (w.heap.size + 1) 0 (bv z64L).toArray.size) := BR.out.there 0 _ (by simp)
    go_wp2_with (refine wpList_store_mid rfl 27 (.tmp 4) (.tmp 9) rfl (w.heap.size + 1) 0 (bv z64L).toArray rfl (by kernel_rfl) ht.out (by kernel_rfl) (all_oneCell_toArray (bv_one _)) ?_)
    have BZ := hide (BR.out.all (bv z64L) rfl)
    have LZ := hide (L2.out.setCells (g := w.heap.size + 1) (by omega) (bv z64L) 0)
    refine bodyPost_ret (results_cell_tmp rfl _ _ _ (w.heap.size + 1) 0 rfl (.agg (bv z64L).toArray) (.int .i64 1) (run_loadVar_mid _ _ _ _ (bv z64L) _ BZ.out.range Try.underlying27 rfl (by kernel_rfl)) rfl) rfl ⟨?_, LZ.out⟩
    simp only [showL, showE, hR', z64L, Bool.false_eq_true, false_and, if_false]
  rw [hR]
  have hn64 : n ≤ 64 := by simp only [rightB, decide_eq_true_eq] at hR; exact hR.1
  by_cases hin : 0 ≤ at_ ∧ at_ < n
  case neg =>
    have ht : Hid (w2.there (w.heap.size + 1) 0 (bv z64L).toArray.size) := BR.out.there 0 _ (by simp)
    have BZ := hide (BR.out.all (bv z64L) rfl)
    have LZ := hide (L2.out.setCells (g := w.heap.size + 1) (by omega) (bv z64L) 0)
    have HR := hide hR
    have HIN := hide hin
    clear hR
    by_cases c1 : at_ < 0
    · go_wp2_with (refine wpList_store_mid rfl 27 (.tmp 4) (.tmp 19) rfl (w.heap.size + 1) 0 (bv z64L).toArray rfl (by kernel_rfl) ht.out (by kernel_rfl) (all_oneCell_toArray (bv_one _)) ?_)
      refine bodyPost_ret (results_cell_tmp rfl _ _ _ (w.heap.size + 1) 0 rfl (.agg (bv z64L).toArray) (.int .i64 5) (run_loadVar_mid _ _ _ _ (bv z64L) _ BZ.out.range Try.underlying27 rfl (by kernel_rfl)) rfl) rfl ⟨?_, LZ.out⟩
      simp only [showL, showE, HR.out, if_neg HIN.out, z64L, true_and, if_true]
    · have c2 : (n : Int) ≤ at_ := by omega
      go_wp2_with (refine wpList_store_mid rfl 27 (.tmp 4) (.tmp 19) rfl (w.heap.size + 1) 0 (bv z64L).toArray rfl (by kernel_rfl) ht.out (by kernel_rfl) (all_oneCell_toArray (bv_one _)) ?_)
      refine bodyPost_ret (results_cell_tmp rfl _ _ _ (w.heap.size + 1) 0 rfl (.agg (bv z64L).toArray) (.int .i64 5) (run_loadVar_mid _ _ _ _ (bv z64L) _ BZ.out.range Try.underlying27 rfl (by kernel_rfl)) rfl) rfl ⟨?_, LZ.out⟩
      simp only [showL, showE, HR.out, if_neg HIN.out, z64L, true_and, if_true]
  obtain ⟨z, rfl⟩ := Int.eq_ofNat_of_zero_le hin.1
  have hzn : z < n := by omega
  have hd1 : ¬ (z : Int) < 0 := by omega
  have hd2 : ¬ (n : Int) ≤ (z : Int) := by omega
  have HIN := hide hin
  have HR := hide hR
  clear hin hR
  go_wp2_with fail
  refine (rall_c w2 (HM.out.later L2.out)).mono ?_
  rintro e w3 ⟨v3, rfl, hl3, ho3⟩
  simp only [allN, allF, HR.out, if_true] at ho3
  obtain ⟨g, cg, e, hg⟩ := owns_head ho3 (by omega)
  subst e
  have hfl := app_length n D F HFl.out (fit_of_right HR.out HO.out)
  have L3 := hide (L2.out.trans hl3)
  have BR3 := hide (Box.later BR.out hl3)
  have hrg := owns_range ho3 (z * 64) 64 (by omega)
  rw [bv_part] at hrg
  have HS := hide hrg
  have hsl := hide (seg_length (app F D) (z * 64) 64 (by omega))
  have hres : Hid (showL n F D z = seg (app F D) (z * 64) 64 ∧ showE n D z = 0) := by
    constructor
    · unfold showL; rw [if_pos ⟨HR.out, HIN.out⟩]; simp
    · unfold showE; rw [if_pos HR.out, if_pos HIN.out]
  clear ho3 hl3 hrg hfl d0 d1
  generalize seg (app F D) (z * 64) 64 = X at *
  have ht : Hid (w3.there (w.heap.size + 1) 0 (bv X).toArray.size) := BR3.out.there 0 _ (by simp [bv_length, hsl.out, z64L])
  have BZ := hide (BR3.out.all (bv X) (by simp [bv_length, hsl.out, z64L]))
  have LZ := hide (L3.out.setCells (g := w.heap.size + 1) (by omega) (bv X) 0)
  go_wp2_with (first
    | refine wpList_load_mid rfl 27 (.tmp 23) rfl g (z * 64) rfl (bv X) _ HS.out Try.underlying27 rfl (by rw [Try.info_block, bv_length, hsl.out]) ?_
    | refine wpList_store_mid rfl 27 (.tmp 4) (.tmp 24) rfl (w.heap.size + 1) 0 (bv X).toArray rfl rfl ht.out (by rw [Try.info_block]; simp [bv_length, hsl.out]) (all_oneCell_toArray (bv_one _)) ?_)
  refine bodyPost_ret (results_cell_tmp rfl _ _ _ (w.heap.size + 1) 0 rfl (.agg (bv X).toArray) (.int .i64 0) (run_loadVar_mid _ _ _ _ (bv X) _ BZ.out.range Try.underlying27 rfl (by rw [Try.info_block, bv_length, hsl.out])) rfl) rfl ⟨?_, LZ.out⟩
  rw [hres.out.1, hres.out.2]
end Go.Proofs.Ytphgjofiploahaa
