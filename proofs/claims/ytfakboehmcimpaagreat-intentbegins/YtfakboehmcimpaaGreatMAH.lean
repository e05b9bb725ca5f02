import Derived.Deep.Slices
import Derived.Test.YtfakboehmcimpaaGreatMAG
import Derived.Test.YtfakboehmcimpaaGreatMAD
import Derived.Test.YtfakboehmcimpaaGreatMAB
import Derived.Test.YtfakboehmcimpaaGreatMAE
namespace Go.Proofs.YtfakboehmcimpaaGreat
open Go.ChangeShapes Go.WideShapes Go.ChangeAt Go.RowKit
set_option linter.unusedVariables false
set_option maxRecDepth 4000
set_option linter.unusedSimpArgs false
def flushOk (n : Nat) (at_ m : Int) : Bool := decide (0 ≤ at_ ∧ 0 ≤ m ∧ at_ ≤ n)
def flushTo (n : Nat) (at_ m : Int) : Int := if m = 0 ∨ (n : Int) - at_ < m then n else at_ + m
def flushE (n : Nat) (D : List Drt) (at_ m : Int) : Int := if rightB n D then (if flushOk n at_ m then 0 else 5) else 1
def flushF (n : Nat) (F : List UInt8) (D : List Drt) (at_ m : Int) : List UInt8 := if flushE n D at_ m = 0 then app F (D.filter (inR at_ (flushTo n at_ m))) else []
def flushD (n : Nat) (D : List Drt) (at_ m : Int) : List Drt := if flushE n D at_ m = 0 then D.filter (fun d => !inR at_ (flushTo n at_ m) d) else []
def flushN (n : Nat) (D : List Drt) (at_ m : Int) : Nat := if flushE n D at_ m = 0 then n else 0
theorem Med.nil (w : World) : Med w (.agg #[.slice none 0 0, .slice none 0 0]) 0 [] [] := ⟨_, _, rfl, Rw.nil 64 w, Rw.nil 65 w, fun d hd => by cases hd⟩
theorem Ok.filter {D : List Drt} (h : Ok D) (p : Drt → Bool) : Ok (D.filter p) := fun d hd => h d (List.mem_filter.1 hd).1
set_option maxHeartbeats 1000000 in
theorem rflush_c {v : Value} {n : Nat} {F : List UInt8} {D : List Drt} (at_ m : Int) (w : World) (h : Med w v n F D) (ha : -9223372036854775808 ≤ at_) (ha' : at_ ≤ 9223372036854775807) (hm : -9223372036854775808 ≤ m) (hm' : m ≤ 9223372036854775807) :
    Calls Tryz.prog 90 #[v, .int .i64 at_, .int .i64 m] w fun e w' => ∃ v', e = .returned (.tuple #[v', .int .i64 (flushE n D at_ m)]) ∧ Later w w' ∧ Med w' v' (flushN n D at_ m) (flushF n F D at_ m) (flushD n D at_ m) := by
  have HM := hide h
  obtain ⟨vb, vd, rfl, hb, hd, hok⟩ := h
  obtain ⟨ab, cb, rfl⟩ := hb.shape
  obtain ⟨k, hk⟩ : ∃ k, k = D.length := ⟨_, rfl⟩
  rw [← hk] at hd
  obtain ⟨aD, cD, rfl⟩ := hd.shape
  have hnm := hb.2.1
  unfold maxLen at hnm
  have HO := hide hok
  have HK := hide hk
  clear hb hd hk hok
  go_enter Tryz.func90, Tryz.ntmps90
  go_wp2_with fail
  refine (rright_c _ (HM.out.later (((Later.refl w).alloc _).alloc _))).mono ?_
  rintro e w2 ⟨rfl, hl2⟩
  have L2 : Hid (Later w w2) := Later.trans (((Later.refl w).alloc _).alloc _) hl2
  have BX : Hid (Box w2 w.heap.size 25 [.slice ab n cb, .slice aD k cD]) := Box.later ((Box.new w 25 #[.slice ab n cb, .slice aD k cD]).alloc _) hl2
  have BR : Hid (Box w2 (w.heap.size + 1) 25 [.slice none 0 0, .slice none 0 0]) := Box.later (Box.new' _ _ _ _ rfl _ (by simp)) hl2
  clear hl2
  have d0 := BX.out.cell 0
  have d1 := BX.out.cell 1
  have r0 := BR.out.cell 0
  have r1 := BR.out.cell 1
  have f0 := BR.out.frozen 0
  have f1 := BR.out.frozen 1
  have BZ : Hid (Box ((w2.setCell ⟨w.heap.size + 1, 0, none⟩ (.slice none 0 0)).setCell ⟨w.heap.size + 1, 1, none⟩ (.slice none 0 0)) (w.heap.size + 1) 25 [.slice none 0 0, .slice none 0 0]) := (BR.out.set 0 _).set 1 _
  have LZ : Hid (Later w ((w2.setCell ⟨w.heap.size + 1, 0, none⟩ (.slice none 0 0)).setCell ⟨w.heap.size + 1, 1, none⟩ (.slice none 0 0))) := (L2.out.setCell (by simp) _).setCell (by simp) _
  by_cases hR : rightB n D = true
  case neg =>
    have hR' : rightB n D = false := by simpa using hR
    rw [hR']
    go_wp2
    refine bodyPost_ret (results_cell_tmp rfl _ _ _ (w.heap.size + 1) 0 rfl (.agg #[.slice none 0 0, .slice none 0 0]) (.int .i64 1) (run_loadVar_mid _ _ _ _ [.slice none 0 0, .slice none 0 0] _ BZ.out.range Tryz.underlying25 rfl (by kernel_rfl)) rfl) rfl ⟨.agg #[.slice none 0 0, .slice none 0 0], ?_, LZ.out, ?_⟩
    · simp [flushE, hR']
    · simpa [flushE, flushN, flushF, flushD, hR'] using Med.nil _
  rw [hR]
  by_cases hin : flushOk n at_ m = true
  case neg =>
    have hE : Hid (flushE n D at_ m = 5) := by simp [Hid, flushE, hR, hin]
    have hin' : ¬ (0 ≤ at_ ∧ 0 ≤ m ∧ at_ ≤ n) := by simpa [flushOk] using hin
    clear hin
    by_cases c1 : at_ < 0
    · go_wp2
      refine bodyPost_ret (results_cell_tmp rfl _ _ _ (w.heap.size + 1) 0 rfl (.agg #[.slice none 0 0, .slice none 0 0]) (.int .i64 5) (run_loadVar_mid _ _ _ _ [.slice none 0 0, .slice none 0 0] _ BZ.out.range Tryz.underlying25 rfl (by kernel_rfl)) rfl) rfl ⟨.agg #[.slice none 0 0, .slice none 0 0], by rw [hE.out], LZ.out, ?_⟩
      simpa [flushN, flushF, flushD, hE.out] using Med.nil _
    · by_cases c2 : m < 0
      · go_wp2
        refine bodyPost_ret (results_cell_tmp rfl _ _ _ (w.heap.size + 1) 0 rfl (.agg #[.slice none 0 0, .slice none 0 0]) (.int .i64 5) (run_loadVar_mid _ _ _ _ [.slice none 0 0, .slice none 0 0] _ BZ.out.range Tryz.underlying25 rfl (by kernel_rfl)) rfl) rfl ⟨.agg #[.slice none 0 0, .slice none 0 0], by rw [hE.out], LZ.out, ?_⟩
        simpa [flushN, flushF, flushD, hE.out] using Med.nil _
      · have c3 : (n : Int) < at_ := by omega
        go_wp2
        refine bodyPost_ret (results_cell_tmp rfl _ _ _ (w.heap.size + 1) 0 rfl (.agg #[.slice none 0 0, .slice none 0 0]) (.int .i64 5) (run_loadVar_mid _ _ _ _ [.slice none 0 0, .slice none 0 0] _ BZ.out.range Tryz.underlying25 rfl (by kernel_rfl)) rfl) rfl ⟨.agg #[.slice none 0 0, .slice none 0 0], by rw [hE.out], LZ.out, ?_⟩
        simpa [flushN, flushF, flushD, hE.out] using Med.nil _
  have hin' : 0 ≤ at_ ∧ 0 ≤ m ∧ at_ ≤ n := by simpa [flushOk] using hin
  have hE : Hid (flushE n D at_ m = 0) := by simp [Hid, flushE, hR, hin]
  have hR2 := hR
  simp only [rightB, decide_eq_true_eq] at hR2
  have hn64 := hR2.1
  have HL := hide hR2.2.1
  have HFit := hide (fit_of_right hR HO.out)
  have c1 : ¬ at_ < 0 := by omega
  have c2 : ¬ m < 0 := by omega
  have c3 : ¬ (n : Int) < at_ := by omega
  clear hin hR2 hR
  have hT : Hid (∀ T, T = flushTo n at_ m → ∀ w', Later w w' → Calls Tryz.prog 121 #[.agg #[.slice ab n cb, .slice aD k cD], .int .i64 at_, .int .i64 T] w' fun e w'' => ∃ vb vd, e = .returned (.agg #[vb, vd]) ∧ Later w' w'' ∧
      w''.ownsRow w'.heap.size 80 64 vb n (bv (flushF n F D at_ m)) ∧ w''.ownsRow w'.heap.size 83 65 vd (flushD n D at_ m).length (dv (flushD n D at_ m))) := by
    intro T hT w' hl
    have := rflushed_c at_ T w' (HM.out.later hl) hn64 HL.out HFit.out
    rw [hT] at this ⊢
    simpa [flushF, flushD, hE.out] using this
  have hend : Hid (∀ (w8 : World) (a3 a6 : Option Addr) (c3 m6 c6 : Nat), m6 = (flushD n D at_ m).length → Box w8 (w.heap.size + 1) 25 [.slice none 0 0, .slice none 0 0] → Later w w8 → w8.ownsRow w.heap.size 80 64 (.slice a3 n c3) n (bv (flushF n F D at_ m)) → w8.ownsRow w.heap.size 83 65 (.slice a6 m6 c6) m6 (dv (flushD n D at_ m)) →
      Box ((w8.setCell ⟨w.heap.size + 1, 0, none⟩ (.slice a3 n c3)).setCell ⟨w.heap.size + 1, 1, none⟩ (.slice a6 m6 c6)) (w.heap.size + 1) 25 [.slice a3 n c3, .slice a6 m6 c6] ∧ Later w ((w8.setCell ⟨w.heap.size + 1, 0, none⟩ (.slice a3 n c3)).setCell ⟨w.heap.size + 1, 1, none⟩ (.slice a6 m6 c6)) ∧
      Med ((w8.setCell ⟨w.heap.size + 1, 0, none⟩ (.slice a3 n c3)).setCell ⟨w.heap.size + 1, 1, none⟩ (.slice a6 m6 c6)) (.agg #[.slice a3 n c3, .slice a6 m6 c6]) (flushN n D at_ m) (flushF n F D at_ m) (flushD n D at_ m)) := by
    intro w8 a3 a6 c3 m6 c6 hm6 hB hl h1 h2
    have hne : ∀ g, g ≠ w.heap.size + 1 → ((w8.setCell ⟨w.heap.size + 1, 0, none⟩ (.slice a3 n c3)).setCell ⟨w.heap.size + 1, 1, none⟩ (.slice a6 m6 c6)).heap[g]? = w8.heap[g]? := fun g hg => by
      rw [heap_setCell_other _ _ _ _ (by simpa using hg), heap_setCell_other _ _ _ _ (by simpa using hg)]
    have e1 := owns_kept h1 fun g hg => hne g (fun e => box_ne_own hB h1 (by decide) g hg e.symm)
    have e2 := owns_kept h2 fun g hg => hne g (fun e => box_ne_own hB h2 (by decide) g hg e.symm)
    refine ⟨(hB.set 0 _).set 1 _, (hl.setCell (by simp) _).setCell (by simp) _, _, _, rfl, ?_, ?_, ?_⟩
    · rw [show flushN n D at_ m = n from by simp [flushN, hE.out]]; exact Rw.of_owns e1
    · rw [← hm6]; exact Rw.of_owns e2
    · unfold flushD; rw [if_pos hE.out]; exact HO.out.filter _
  have hw1 : IntKind.i64.wrap ((n : Int) - at_) = (n : Int) - at_ := by rw [IntKind.wrap_i64]; omega
  have hw2 : IntKind.i64.wrap (at_ + ((n : Int) - at_)) = at_ + ((n : Int) - at_) := by rw [IntKind.wrap_i64]; omega
  by_cases hm0 : m = 0
  · have hmb : (m == 0) = true := by simpa using hm0
    have hd0 := d0
    clear r0 r1 f0 f1 BZ LZ
    go_wp2_with fail
    refine (hT.out _ ?eqT w2 L2.out).mono ?_
    case eqT => (unfold flushTo; split <;> omega)
    rintro e w3 ⟨vb, vd, rfl, hl3, h1, h2⟩
    have L3 := L2.out.trans hl3
    have BR3 := Box.later BR.out hl3
    obtain ⟨a3, c3', rfl⟩ := (Rw.of_owns h1).shape
    obtain ⟨m6, hm6⟩ : ∃ m6, m6 = (flushD n D at_ m).length := ⟨_, rfl⟩
    rw [← hm6] at h2
    obtain ⟨a6, c6, rfl⟩ := (Rw.of_owns h2).shape
    have HE := hide (hend.out w3 a3 a6 c3' m6 c6 hm6 BR3 L3 (h1.mono L2.out.size) (h2.mono L2.out.size))
    have r0 := BR3.cell 0
    have r1 := BR3.cell 1
    have f0 := BR3.frozen 0
    have f1 := BR3.frozen 1
    clear h1 h2 hl3 L3 BR3 hend hT hm6
    go_wp2
    exact bodyPost_ret (results_cell_tmp rfl _ _ _ (w.heap.size + 1) 0 rfl (.agg #[.slice a3 n c3', .slice a6 m6 c6]) (.int .i64 0) (run_loadVar_mid _ _ _ _ [.slice a3 n c3', .slice a6 m6 c6] _ HE.out.1.range Tryz.underlying25 rfl (by kernel_rfl)) rfl) rfl ⟨.agg #[.slice a3 n c3', .slice a6 m6 c6], by rw [hE.out], HE.out.2.1, HE.out.2.2⟩
  · have hmb : (m == 0) = false := by rw [beq_eq_false_iff_ne]; exact hm0
    by_cases hmn : (n : Int) - at_ < m
    · skip
      clear r0 r1 f0 f1 BZ LZ
      go_wp2_with fail
      refine (hT.out _ ?eqT w2 L2.out).mono ?_
      case eqT => (unfold flushTo; split <;> omega)
      rintro e w3 ⟨vb, vd, rfl, hl3, h1, h2⟩
      have L3 := L2.out.trans hl3
      have BR3 := Box.later BR.out hl3
      obtain ⟨a3, c3', rfl⟩ := (Rw.of_owns h1).shape
      obtain ⟨m6, hm6⟩ : ∃ m6, m6 = (flushD n D at_ m).length := ⟨_, rfl⟩
      rw [← hm6] at h2
      obtain ⟨a6, c6, rfl⟩ := (Rw.of_owns h2).shape
      have HE := hide (hend.out w3 a3 a6 c3' m6 c6 hm6 BR3 L3 (h1.mono L2.out.size) (h2.mono L2.out.size))
      have r0 := BR3.cell 0
      have r1 := BR3.cell 1
      have f0 := BR3.frozen 0
      have f1 := BR3.frozen 1
      clear h1 h2 hl3 L3 BR3 hend hT hm6
      go_wp2
      exact bodyPost_ret (results_cell_tmp rfl _ _ _ (w.heap.size + 1) 0 rfl (.agg #[.slice a3 n c3', .slice a6 m6 c6]) (.int .i64 0) (run_loadVar_mid _ _ _ _ [.slice a3 n c3', .slice a6 m6 c6] _ HE.out.1.range Tryz.underlying25 rfl (by kernel_rfl)) rfl) rfl ⟨.agg #[.slice a3 n c3', .slice a6 m6 c6], by rw [hE.out], HE.out.2.1, HE.out.2.2⟩
    · have hw3 : IntKind.i64.wrap (at_ + m) = at_ + m := by rw [IntKind.wrap_i64]; omega
      clear r0 r1 f0 f1 BZ LZ
      go_wp2_with fail
      refine (hT.out _ ?eqT w2 L2.out).mono ?_
      case eqT => (unfold flushTo; split <;> omega)
      rintro e w3 ⟨vb, vd, rfl, hl3, h1, h2⟩
      have L3 := L2.out.trans hl3
      have BR3 := Box.later BR.out hl3
      obtain ⟨a3, c3', rfl⟩ := (Rw.of_owns h1).shape
      obtain ⟨m6, hm6⟩ : ∃ m6, m6 = (flushD n D at_ m).length := ⟨_, rfl⟩
      rw [← hm6] at h2
      obtain ⟨a6, c6, rfl⟩ := (Rw.of_owns h2).shape
      have HE := hide (hend.out w3 a3 a6 c3' m6 c6 hm6 BR3 L3 (h1.mono L2.out.size) (h2.mono L2.out.size))
      have r0 := BR3.cell 0
      have r1 := BR3.cell 1
      have f0 := BR3.frozen 0
      have f1 := BR3.frozen 1
      clear h1 h2 hl3 L3 BR3 hend hT hm6
      go_wp2
      exact bodyPost_ret (results_cell_tmp rfl _ _ _ (w.heap.size + 1) 0 rfl (.agg #[.slice a3 n c3', .slice a6 m6 c6]) (.int .i64 0) (run_loadVar_mid _ _ _ _ [.slice a3 n c3', .slice a6 m6 c6] _ HE.out.1.range Tryz.underlying25 rfl (by kernel_rfl)) rfl) rfl ⟨.agg #[.slice a3 n c3', .slice a6 m6 c6], by rw [hE.out], HE.out.2.1, HE.out.2.2⟩
end Go.Proofs.YtfakboehmcimpaaGreat

namespace Go.Proofs.YtfakboehmcimpaaGreat
open Go.ChangeShapes Go.WideShapes Go.ChangeAt Go.RowKit
set_option linter.unusedVariables false
set_option maxRecDepth 4000
set_option linter.unusedSimpArgs false
end Go.Proofs.YtfakboehmcimpaaGreat

namespace Go.Proofs.YtfakboehmcimpaaGreat
open Go.ChangeShapes Go.WideShapes Go.ChangeAt Go.RowKit
set_option linter.unusedVariables false
set_option maxRecDepth 4000
set_option linter.unusedSimpArgs false
end Go.Proofs.YtfakboehmcimpaaGreat

namespace Go.Proofs.YtfakboehmcimpaaGreat
open Go.ChangeShapes Go.WideShapes Go.ChangeAt Go.RowKit
set_option linter.unusedVariables false
set_option maxRecDepth 4000
set_option linter.unusedSimpArgs false
end Go.Proofs.YtfakboehmcimpaaGreat

namespace Go.Proofs.YtfakboehmcimpaaGreat
open Go.ChangeShapes Go.WideShapes Go.ChangeAt Go.RowKit
set_option linter.unusedVariables false
set_option maxRecDepth 20000
set_option linter.unusedSimpArgs false
section
variable {H : Type} {enc : TypeId × Value → H} {P : Program} {w : World} {r : Reach} {base : Nat} {t : TypeId} {v : Value} {d : DataW H} {p : List MemPlace}
theorem flatten_len {sz : Nat} (f : Nat → List Value) (hf : ∀ i, (f i).length = sz) : ∀ n : Nat, (((List.range n).map f).flatten).length = n * sz := by
  intro n
  induction n with
  | zero => simp
  | succ n ih => rw [List.range_succ, List.map_append, List.flatten_append, List.length_append, ih]; simp [hf, Nat.add_mul]
theorem flatten_get {sz : Nat} (f : Nat → List Value) (hf : ∀ i, (f i).length = sz) (hsz : 0 < sz) : ∀ (n j : Nat), j < n * sz → (((List.range n).map f).flatten)[j]? = (f (j / sz))[j % sz]? := by
  intro n
  induction n with
  | zero => intro j hj; simp at hj
  | succ n ih =>
    intro j hj
    rw [List.range_succ, List.map_append, List.flatten_append]
    have hl := flatten_len f hf n
    by_cases h : j < n * sz
    · rw [List.getElem?_append_left (by omega)]; exact ih j h
    · rw [List.getElem?_append_right (by omega), hl]
      have h1 : j < n * sz + sz := by rw [Nat.add_mul] at hj; omega
      have e1 : j / sz = n := by
        apply Nat.div_eq_of_lt_le
        · omega
        · rw [Nat.add_mul]; omega
      have e2 : j % sz = j - n * sz := by rw [Nat.mod_eq_sub_mul_div, e1, Nat.mul_comm]
      simp [e1, e2]
/-- An array of bytes, as cells. -/
theorem shape_bytes {n : Nat} {e : TypeId} (ht : P.underlying t = some (.array n e)) (he : P.underlying e = some (.int .u8)) (hc : P.cellsOf e = 1) (hct : P.cellsOf t = n) (fuel : Nat) (cs : List Value) (x : DataW H × List MemPlace)
    (h : DataW.trod enc P w 0 (fun _ => true) true fuel t cs = some x) : ∃ X : List UInt8, X.length = n ∧ cs = bv X := by
  obtain ⟨xs, m, _, _, hl, hxs, hall⟩ := DataW.trod_array ht h
  rw [hct] at hl
  have hget : ∀ i, i < n → ∃ b : UInt8, cs[i]? = some (.int .u8 (b.toNat : Int)) := by
    intro i hi
    have h1 := hall i hi
    rw [hc, Nat.mul_one] at h1
    have h2 : (List.drop i cs).take 1 = [cs[i]'(by omega)] := by
      rw [List.drop_eq_getElem_cons (by omega), List.take_succ_cons, List.take_zero]
    rw [h2, List.getElem?_eq_getElem (by omega)] at h1
    obtain ⟨z, e0, _, wz⟩ := DataW.trod_int he h1
    simp at e0
    have hb := bounds_u8 wz
    obtain ⟨y, rfl⟩ := Int.eq_ofNat_of_zero_le hb.1
    refine ⟨UInt8.ofNat y, ?_⟩
    rw [List.getElem?_eq_getElem (by omega), e0, UInt8.toNat_ofNat']
    congr 3
    omega
  have hch : ∀ i, ∃ b : UInt8, i < n → cs[i]? = some (.int .u8 (b.toNat : Int)) := fun i => by
    by_cases hi : i < n
    · obtain ⟨b, hb⟩ := hget i hi; exact ⟨b, fun _ => hb⟩
    · exact ⟨0, fun h => absurd h hi⟩
  obtain ⟨f, hf⟩ := Classical.axiomOfChoice hch
  refine ⟨(List.range n).map f, by simp, ?_⟩
  apply List.ext_getElem?
  intro i
  by_cases hi : i < n
  · rw [hf i hi]; simp [bv, hi]
  · rw [List.getElem?_eq_none (by omega), List.getElem?_eq_none (by simp [bv]; omega)]
end
theorem bv_flatten : ∀ css : List (List Value), (∀ cs ∈ css, ∃ X : List UInt8, X.length = 64 ∧ cs = bv X) → ∃ F : List UInt8, css.flatten = bv F
  | [], _ => ⟨[], rfl⟩
  | c :: css, h => by
    obtain ⟨X, _, rfl⟩ := h c (by simp)
    obtain ⟨F, hF⟩ := bv_flatten css (fun cs hcs => h cs (by simp [hcs]))
    exact ⟨X ++ F, by rw [List.flatten_cons, hF, bv_append]⟩
end Go.Proofs.YtfakboehmcimpaaGreat

namespace Go.Proofs.YtfakboehmcimpaaGreat
open Go.ChangeShapes Go.WideShapes Go.ChangeAt Go.RowKit
set_option linter.unusedVariables false
set_option maxRecDepth 20000
set_option linter.unusedSimpArgs false
/-! Structs that come in, whatever is in them. -/
section
variable {H : Type} {enc : TypeId × Value → H} {P : Program} {w : World} {t : TypeId}
/-- A slice of whatever elements, as cells. -/
theorem shape_rows {e : TypeId} {sz : Nat} (ht : P.underlying t = some (.slice e)) (hce : P.cellsOf e = sz) (hsz : 0 < sz) (S : List Value → Prop)
    (hS : ∀ fuel cs x, DataW.trod enc P w 0 (fun _ => true) true fuel e cs = some x → S cs) (fuel : Nat) (cs : List Value) (x : DataW H × List MemPlace) (hf : DataW.trod enc P w 0 (fun _ => true) true fuel t cs = some x) :
    ∃ (v : Value) (css : List (List Value)), cs = [v] ∧ (∀ c ∈ css, S c ∧ c.length = sz) ∧ Rw sz w v css.length css.flatten := by
  rcases Deep.open_slice ht hf with ⟨rfl, _⟩ | ⟨x, len, cap, m, n, D, Pl, rfl, _, hl, hm, hmm, _, hel⟩
  · exact ⟨_, [], rfl, by simp, Rw.nil _ _⟩
  · by_cases h0 : len = 0
    · subst h0
      exact ⟨_, [], rfl, by simp, by simp, by simp, some x, cap, rfl, by omega, .inl rfl⟩
    · have hmc : m = cap := by simpa using hmm
      subst hmc
      have hspot : x.spot = none := by
        obtain ⟨cs, h1, h2⟩ := hel 0 (by omega)
        rw [hce] at h1
        have hc := World.cells?_some h1
        have h3 := hc.2.2 0 hsz
        rw [List.getElem?_eq_getElem (by rw [hc.2.1]; exact hsz)] at h3
        have h4 := World.cell?_spot h3
        clear h3 hc h1 h2 hel hf
        obtain ⟨b, off, spot⟩ := x
        cases spot with
        | none => rfl
        | some q => simp [Addr.add] at h4
      obtain ⟨b, off, spot⟩ := x
      simp at hspot
      subst hspot
      have hch : ∀ i, ∃ cs : List Value, cs.length = sz ∧ (i < len → S cs ∧ ∀ j, j < sz → w.cell? ⟨b, off + (i * sz + j), none⟩ = cs[j]?) := by
        intro i
        by_cases hi : i < len
        · obtain ⟨cs, h1, h2⟩ := hel i (by omega)
          rw [hce] at h1
          have hc := World.cells?_some h1
          refine ⟨cs, hc.2.1, fun _ => ⟨hS _ _ _ h2, fun j hj => ?_⟩⟩
          rw [← hc.2.2 j hj, Addr.add_mid, Addr.add_mid, Nat.add_assoc]
        · exact ⟨List.replicate sz undef, by simp, fun h => absurd h hi⟩
      obtain ⟨f, hf'⟩ := Classical.axiomOfChoice hch
      have hfl := flatten_len f (fun i => (hf' i).1) len
      refine ⟨_, (List.range len).map f, rfl, ?_, ?_⟩
      · intro cs hcs
        obtain ⟨i, hi, rfl⟩ := List.mem_map.1 hcs
        exact ⟨((hf' i).2 (by simpa using hi)).1, (hf' i).1⟩
      · rw [show ((List.range len).map f).length = len from by simp]
        refine ⟨hfl, by omega, some ⟨b, off, none⟩, m, rfl, hl, .inr ⟨b, off, rfl, fun j u hu => ?_⟩⟩
        have hj : j < len * sz := by have := (List.getElem?_eq_some_iff.1 hu).1; omega
        rw [flatten_get f (fun i => (hf' i).1) hsz len j hj] at hu
        have hd : j / sz < len := Nat.div_lt_of_lt_mul (by rw [Nat.mul_comm]; exact hj)
        have := ((hf' (j / sz)).2 hd).2 (j % sz) (Nat.mod_lt _ hsz)
        rw [← hu, ← this]
        congr 3
        have := Nat.div_add_mod j sz
        rw [Nat.mul_comm] at this
        omega
/-- A field of a struct, as cells. -/
theorem shape_field {fs : Array Field} {L : List (TypeId × Nat)} (ht : P.underlying t = some (.struct fs)) (hL : fs.toList.map (fun f => (f.type, f.offset)) = L) (i : Nat) (ty : TypeId) (off : Nat) (hi : L[i]? = some (ty, off))
    {fuel : Nat} {cs : List Value} {x : DataW H × List MemPlace} (h : DataW.trod enc P w 0 (fun _ => true) true fuel t cs = some x) : cs.length = P.cellsOf t ∧ ∃ m y, DataW.trod enc P w 0 (fun _ => true) true m ty ((cs.drop off).take (P.cellsOf ty)) = some y := by
  obtain ⟨xs, n, _, _, hl, hxs, hall⟩ := DataW.trod_struct ht h
  rw [← hL, List.getElem?_map, Option.map_eq_some_iff] at hi
  obtain ⟨f, hf, he⟩ := hi
  simp only [Prod.mk.injEq] at he
  obtain ⟨rfl, rfl⟩ := he
  have hlt : i < fs.size := by have := (List.getElem?_eq_some_iff.1 hf).1; simpa using this
  have := hall i f (by simpa using hf)
  rw [List.getElem?_eq_getElem (by omega)] at this
  exact ⟨hl, n, _, this⟩
theorem shape_int {k : IntKind} (ht : P.underlying t = some (.int k)) {fuel : Nat} {cs : List Value} {x : DataW H × List MemPlace} (h : DataW.trod enc P w 0 (fun _ => true) true fuel t cs = some x) : ∃ n : Int, cs = [.int k n] ∧ (Lit.int k n).wf = true := by
  obtain ⟨n, h1, _, h2⟩ := DataW.trod_int ht h
  exact ⟨n, h1, h2⟩
theorem shape_bool (ht : P.underlying t = some .bool) {fuel : Nat} {cs : List Value} {x : DataW H × List MemPlace} (h : DataW.trod enc P w 0 (fun _ => true) true fuel t cs = some x) : ∃ b : Bool, cs = [.bool b] := by
  obtain ⟨b, h1, _⟩ := DataW.trod_bool ht h
  exact ⟨b, h1⟩
end
theorem agg_of {cs : Array Value} {l : List Value} (h : cs.toList = l) : Value.agg cs = .agg l.toArray := by rw [← h]
theorem two_cells {cs : List Value} {a b : Value} (h : cs.length = 2) (h0 : (cs.drop 0).take 1 = [a]) (h1 : (cs.drop 1).take 1 = [b]) : cs = [a, b] := by
  match cs, h with
  | [x, y], _ => simp at h0 h1; rw [h0, h1]
section
variable {H : Type} {enc : TypeId × Value → H} {w : World} {r : Reach} {base : Nat} {v : Value} {d : DataW H} {p : List MemPlace}
theorem Tryz.is_medium : Tryz.prog.underlying 25 = some (.struct (Tryz.prog.fieldsOf 25)) := by kernel_rfl
theorem Tryz.fields_medium : (Tryz.prog.fieldsOf 25).toList.map (fun f => (f.type, f.offset)) = [(22, 0), (23, 1)] := by kernel_rfl
theorem Tryz.offs_dirty : (Tryz.prog.fieldsOf 83).toList.map (fun f => (f.type, f.offset)) = [(3, 0), (80, 1)] := by kernel_rfl
theorem shape_dirty (fuel : Nat) (cs : List Value) (x : DataW H × List MemPlace) (h : DataW.trod enc Tryz.prog w 0 (fun _ => true) true fuel 83 cs = some x) : ∃ D : Drt, (D.2.length = 64 ∧ -9223372036854775808 ≤ D.1 ∧ D.1 ≤ 9223372036854775807) ∧ cs = .int .i64 D.1 :: bv D.2 := by
  obtain ⟨hl, m0, y0, h0⟩ := shape_field Tryz.is_dirty Tryz.offs_dirty 0 _ _ rfl h
  obtain ⟨_, m1, y1, h1⟩ := shape_field Tryz.is_dirty Tryz.offs_dirty 1 _ _ rfl h
  rw [show Tryz.prog.cellsOf 83 = 65 from by kernel_rfl] at hl
  rw [show Tryz.prog.cellsOf 3 = 1 from by kernel_rfl] at h0
  rw [show Tryz.prog.cellsOf 80 = 64 from by kernel_rfl] at h1
  obtain ⟨n, hn, wn⟩ := shape_int Tryz.underlying3 h0
  obtain ⟨X, hX, hx⟩ := shape_bytes Tryz.underlying80 Tryz.underlying5 (by kernel_rfl) (by kernel_rfl) _ _ _ h1
  refine ⟨(n, X), ⟨hX, bounds_i64 wn⟩, ?_⟩
  have e2 : (cs.drop 1).take 64 = cs.drop 1 := List.take_of_length_le (by simp; omega)
  rw [e2] at hx
  match cs, hl with
  | c :: cs, _ =>
    simp at hn hx
    rw [hn, hx]
theorem dv_flatten : ∀ css : List (List Value), (∀ cs ∈ css, ∃ D : Drt, (D.2.length = 64 ∧ -9223372036854775808 ≤ D.1 ∧ D.1 ≤ 9223372036854775807) ∧ cs = .int .i64 D.1 :: bv D.2) → ∃ D : List Drt, D.length = css.length ∧ Ok D ∧ css.flatten = dv D
  | [], _ => ⟨[], rfl, (fun d hd => by cases hd), rfl⟩
  | c :: css, h => by
    obtain ⟨X, hX, rfl⟩ := h c (by simp)
    obtain ⟨D, h1, h2, h3⟩ := dv_flatten css (fun cs hcs => h cs (by simp [hcs]))
    refine ⟨X :: D, by simp [h1], fun d hd => ?_, by rw [List.flatten_cons, h3, dv_cons]⟩
    rcases List.mem_cons.1 hd with rfl | hd
    · exact hX
    · exact h2 d hd
/-- the cells of a medium -/
theorem shape_medium (fuel : Nat) (cs : List Value) (x : DataW H × List MemPlace) (h : DataW.trod enc Tryz.prog w 0 (fun _ => true) true fuel 25 cs = some x) : ∃ vb vd n F D, cs = [vb, vd] ∧ Rw 64 w vb n (bv F) ∧ Rw 65 w vd D.length (dv D) ∧ Ok D := by
  obtain ⟨hl, m0, y0, h0⟩ := shape_field Tryz.is_medium Tryz.fields_medium 0 _ _ rfl h
  obtain ⟨_, m1, y1, h1⟩ := shape_field Tryz.is_medium Tryz.fields_medium 1 _ _ rfl h
  rw [show Tryz.prog.cellsOf 25 = 2 from by kernel_rfl] at hl
  rw [show Tryz.prog.cellsOf 22 = 1 from by kernel_rfl] at h0
  rw [show Tryz.prog.cellsOf 23 = 1 from by kernel_rfl] at h1
  obtain ⟨vb, css, e0, k0, r0⟩ := shape_rows Tryz.underlying22 (sz := 64) (by kernel_rfl) (by decide) (fun cs => ∃ X : List UInt8, X.length = 64 ∧ cs = bv X) (fun fuel cs x hx => shape_bytes Tryz.underlying80 Tryz.underlying5 (by kernel_rfl) (by kernel_rfl) fuel cs x hx) _ _ _ h0
  obtain ⟨vd, dss, e1, k1, r1⟩ := shape_rows Tryz.underlying23 (sz := 65) (by kernel_rfl) (by decide) (fun cs => ∃ D : Drt, (D.2.length = 64 ∧ -9223372036854775808 ≤ D.1 ∧ D.1 ≤ 9223372036854775807) ∧ cs = .int .i64 D.1 :: bv D.2) (fun fuel cs x hx => shape_dirty fuel cs x hx) _ _ _ h1
  obtain ⟨F, hF⟩ := bv_flatten css (fun cs hcs => (k0 cs hcs).1)
  obtain ⟨D, hD, hok, hDf⟩ := dv_flatten dss (fun cs hcs => (k1 cs hcs).1)
  rw [hF] at r0
  rw [hDf, ← hD] at r1
  exact ⟨vb, vd, css.length, F, D, two_cells hl e0 e1, r0, r1, hok⟩
end
end Go.Proofs.YtfakboehmcimpaaGreat

namespace Go.Proofs.YtfakboehmcimpaaGreat
open Go.ChangeShapes Go.WideShapes Go.ChangeAt Go.RowKit
set_option linter.unusedVariables false
set_option maxRecDepth 4000
set_option linter.unusedSimpArgs false
/-! What the landed cache does, said; proved in P3. -/
def IAll : Prop := ∀ (v : Value) (n : Nat) (F : List UInt8) (D : List Drt) (w : World), Med w v n F D →
  Calls Tryz.prog 74 #[v] w fun e w' => ∃ v', e = .returned v' ∧ Later w w' ∧ Rw 64 w' v' (allN n D) (bv (allF n F D))
theorem Med.shape {w : World} {v : Value} {n : Nat} {F : List UInt8} {D : List Drt} (h : Med w v n F D) : ∃ a c a' k c', v = .agg #[.slice a n c, .slice a' k c'] ∧ Hid (k = D.length) ∧ n ≤ 9223372036854775807 ∧ k ≤ 9223372036854775807 := by
  obtain ⟨vb, vd, rfl, hb, hd, _⟩ := h
  obtain ⟨a, c, rfl⟩ := hb.shape
  obtain ⟨a', c', rfl⟩ := hd.shape
  have h1 := hb.2.1
  have h2 := hd.2.1
  unfold maxLen at h1 h2
  exact ⟨a, c, a', D.length, c', rfl, rfl, by omega, by omega⟩
theorem rall_b {v : Value} {n : Nat} {F : List UInt8} {D : List Drt} (w : World) (h : Med w v n F D) :
    Calls Tryz.prog 31 #[v] w fun e w' => ∃ v', e = .returned v' ∧ Later w w' ∧ Rw 64 w' v' (allN n D) (bv (allF n F D)) :=
  (rall_c w h).mono fun e w' ⟨v', he, hl, ho⟩ => ⟨v', he, hl, Rw.of_owns ho⟩
theorem Tryz.zero_medium : (Tryz.prog.info? 25).map (fun i => (i.zero, i.size)) = some (some (.agg #[.slice none 0 0, .slice none 0 0]), 2) := by kernel_rfl
/-- 'x := v', v a medium -/
theorem wpList_newM {w : World} {ops : Array Oper} {rest : List Oper} {o1 o2 : Oper} {a : Act} {Q : Exit → Act → World → Prop} (hg1 : o1.guard = none) (hg2 : o2.guard = none) (h1 : o1.op = .alloc 25) (d : Tmp) (hd : o1.dst = some d) (hd' : d < a.tmps.size) (y : Operand) (hy' : y ≠ .tmp d) (h2 : o2.op = .store 25 (.tmp d) y)
    (x1 x2 : Option Addr) (n1 c1 n2 c2 : Nat) (hy : a.eval y = .agg #[.slice x1 n1 c1, .slice x2 n2 c2])
    (h : ∀ (g : Nat) (w' : World), Box w' g 25 [.slice x1 n1 c1, .slice x2 n2 c2] → Later w w' → Hid (g = w.heap.size ∧ w' = w.alloc (.cells #[.slice x1 n1 c1, .slice x2 n2 c2] 25)) → wpList Tryz.prog ops Q rest ((a.put (some d) (.pointer (some ⟨g, 0, none⟩))).put o2.dst undef) w') : wpList Tryz.prog ops Q (o1 :: o2 :: rest) a w :=
  wpList_new hg1 hg2 25 h1 d hd hd' y hy' h2 #[.slice none 0 0, .slice none 0 0] [.slice x1 n1 c1, .slice x2 n2 c2] Tryz.zero_medium rfl hy (by simp [Value.oneCell']) h
theorem Med.flat {w : World} {v : Value} {n : Nat} {F : List UInt8} {D : List Drt} (h : Med w v n F D) : F.length = n * 64 ∧ Ok D := by
  obtain ⟨vb, vd, rfl, hb, hd, ho⟩ := h
  have := hb.1
  rw [bv_length] at this
  exact ⟨this, ho⟩
end Go.Proofs.YtfakboehmcimpaaGreat

namespace Go.Proofs.YtfakboehmcimpaaGreat
open Go.ChangeShapes Go.WideShapes Go.ChangeAt Go.RowKit
set_option linter.unusedVariables false
set_option maxRecDepth 4000
set_option linter.unusedSimpArgs false
/-! Senses: key, code, qualifier. -/
abbrev Sns := Int × Int × Int
abbrev sc (s : Sns) : List Value := [.int .i64 s.1, .int .i64 s.2.1, .int .i64 s.2.2]
abbrev sval (s : Sns) : Value := .agg #[.int .i64 s.1, .int .i64 s.2.1, .int .i64 s.2.2]
def sv (L : List Sns) : List Value := L.flatMap sc
def OkS (s : Sns) : Prop := (-9223372036854775808 ≤ s.1 ∧ s.1 ≤ 9223372036854775807) ∧ (-9223372036854775808 ≤ s.2.1 ∧ s.2.1 ≤ 9223372036854775807) ∧ (-9223372036854775808 ≤ s.2.2 ∧ s.2.2 ≤ 9223372036854775807)
theorem sv_cons (s : Sns) (L : List Sns) : sv (s :: L) = sc s ++ sv L := by simp [sv]
theorem sv_append (L M : List Sns) : sv (L ++ M) = sv L ++ sv M := by simp [sv]
theorem sv_single (s : Sns) : sv [s] = [.int .i64 s.1, .int .i64 s.2.1, .int .i64 s.2.2] := by simp [sv, sc]
theorem sv_drop : ∀ (L : List Sns) (k : Nat), (sv L).drop (k * 3) = sv (L.drop k)
  | L, 0 => by simp
  | [], k + 1 => by simp [sv]
  | x :: L, k + 1 => by
    rw [sv_cons, List.drop_succ_cons, ← sv_drop L k, List.drop_append, List.drop_of_length_le (by simp [sc]; omega), List.nil_append]
    congr 1; simp [sc]; omega
theorem sv_at (L : List Sns) (k : Nat) (hk : k < L.length) : (sv L)[k * 3]? = some (.int .i64 L[k].1) ∧ (sv L)[k * 3 + 1]? = some (.int .i64 L[k].2.1) ∧ (sv L)[k * 3 + 2]? = some (.int .i64 L[k].2.2) := by
  have h : ∀ j, (sv L)[k * 3 + j]? = (sv (L.drop k))[j]? := fun j => by rw [← sv_drop, List.getElem?_drop]
  have h0 := h 0
  rw [Nat.add_zero] at h0
  rw [h0, h 1, h 2, List.drop_eq_getElem_cons hk, sv_cons]
  exact ⟨rfl, rfl, rfl⟩
theorem sv_one (L : List Sns) : ∀ u ∈ sv L, u.oneCell' = true := by
  intro u hu
  simp only [sv, List.mem_flatMap, sc] at hu
  obtain ⟨d, _, hd⟩ := hu
  simp at hd
  rcases hd with rfl | rfl | rfl <;> rfl
theorem Tryz.elem_sense : Elem Tryz.prog 30 3 24 (.agg #[.int .i64 0, .int .i64 0, .int .i64 0]) := by
  have h : (Tryz.prog.info? 30).map (fun i => (i.zero, i.size, i.bytes)) = some (some (.agg #[.int .i64 0, .int .i64 0, .int .i64 0]), 3, 24) := by kernel_rfl
  obtain ⟨i, hi, h1, h2, h3⟩ := info_parts h
  exact ⟨i, hi, h1, h2, h3⟩
theorem Tryz.zero_sense : (Tryz.prog.info? 30).map (fun i => (i.zero, i.size)) = some (some (.agg #[.int .i64 0, .int .i64 0, .int .i64 0]), 3) := by kernel_rfl
theorem Tryz.info_sense : (Tryz.prog.info? 30).map (·.size) = some 3 := by kernel_rfl
theorem Tryz.guard_sense : Tryz.prog.eqGuardType Tryz.prog.depth 30 = false := by kernel_rfl
/-! Two senses held against one another. -/
theorem map_three {α β : Type} {f : α → β} {l : List α} {x y z : β} (h : l.map f = [x, y, z]) : ∃ a b c, l = [a, b, c] ∧ f a = x ∧ f b = y ∧ f c = z := by
  match l, h with
  | [a, b, c], h => simp at h; exact ⟨a, b, c, rfl, h.1, h.2.1, h.2.2⟩
  | [_], h => simp at h
  | [_, _], h => simp at h
  | _ :: _ :: _ :: _ :: _, h => simp at h
theorem Tryz.fields_sense : (Tryz.prog.fieldsOf 30).toList.map (fun f => (f.name, f.type, f.offset)) = [("Key", 3, 0), ("Code", 3, 1), ("Qual", 3, 2)] := by kernel_rfl
theorem Tryz.is_sense : Tryz.prog.underlying 30 = some (.struct (Tryz.prog.fieldsOf 30)) := by kernel_rfl
theorem Tryz.plain_sense : Tryz.prog.stoodInHeld 30 = false := by kernel_rfl
theorem eqFields_three {P : Program} (w : World) (d : Nat) (xs ys : Array Value) (f g h : Field) (hf : f.name ≠ "_") (hg : g.name ≠ "_") (hh : h.name ≠ "_") (a b a' b' a2 b2 : Value) (r r' r2 : Bool)
    (p1 : (part f.type xs f.offset).run P w = .ok a w) (p2 : (part f.type ys f.offset).run P w = .ok b w) (p3 : (Op.equalIn d f.type a b).run P w = .ok r w)
    (q1 : (part g.type xs g.offset).run P w = .ok a' w) (q2 : (part g.type ys g.offset).run P w = .ok b' w) (q3 : (Op.equalIn d g.type a' b').run P w = .ok r' w)
    (s1 : (part h.type xs h.offset).run P w = .ok a2 w) (s2 : (part h.type ys h.offset).run P w = .ok b2 w) (s3 : (Op.equalIn d h.type a2 b2).run P w = .ok r2 w) :
    (Op.eqFields d xs ys [f, g, h]).run P w = .ok (r && (r' && r2)) w := by
  simp only [Op.eqFields, hf, hg, hh, ne_eq, not_false_eq_true, if_true, Sem.run_bind, p1, p2, p3, q1, q2, q3, s1, s2, s3, Result.andThen_ok]
  cases r <;> cases r' <;> cases r2 <;> simp [Sem.run_bind, q1, q2, q3, s1, s2, s3, Result.andThen_ok]
theorem part_cell {P : Program} {t : TypeId} (w : World) (ht : P.underlying t = some (.int .i64)) (cs : Array Value) (o : Nat) (v : Value) (h : cs[o]? = some v) : (part t cs o).run P w = .ok v w := by
  simp [part, isAgg, run_underlying ht, h]
theorem sense_eq (s t : Sns) (w : World) : (Op.equalIn 10000 30 (sval s) (sval t)).run Tryz.prog w = .ok (s == t) w := by
  refine (run_equalIn_struct w 9999 30 _ _ Tryz.is_sense Tryz.plain_sense).trans ?_
  obtain ⟨f, g, h, hfs, hf, hg, hh⟩ := map_three Tryz.fields_sense
  rw [hfs]
  simp only [Prod.mk.injEq] at hf hg hh
  obtain ⟨n1, t1, o1⟩ := hf
  obtain ⟨n2, t2, o2⟩ := hg
  obtain ⟨n3, t3, o3⟩ := hh
  refine eqFields_three w 9999 _ _ f g h (by rw [n1]; decide) (by rw [n2]; decide) (by rw [n3]; decide) (.int .i64 s.1) (.int .i64 t.1) (.int .i64 s.2.1) (.int .i64 t.2.1) (.int .i64 s.2.2) (.int .i64 t.2.2) _ _ _ ?_ ?_ ?_ ?_ ?_ ?_ ?_ ?_ ?_
  · rw [t1, o1]; exact part_cell w Tryz.underlying3 _ _ _ rfl
  · rw [t1, o1]; exact part_cell w Tryz.underlying3 _ _ _ rfl
  · rw [t1]; exact run_equalIn_int (P := Tryz.prog) w 9998 3 .i64 .i64 s.1 t.1 Tryz.underlying3
  · rw [t2, o2]; exact part_cell w Tryz.underlying3 _ _ _ rfl
  · rw [t2, o2]; exact part_cell w Tryz.underlying3 _ _ _ rfl
  · rw [t2]; exact run_equalIn_int (P := Tryz.prog) w 9998 3 .i64 .i64 s.2.1 t.2.1 Tryz.underlying3
  · rw [t3, o3]; exact part_cell w Tryz.underlying3 _ _ _ rfl
  · rw [t3, o3]; exact part_cell w Tryz.underlying3 _ _ _ rfl
  · rw [t3]; exact run_equalIn_int (P := Tryz.prog) w 9998 3 .i64 .i64 s.2.2 t.2.2 Tryz.underlying3
theorem wpList_eqS {w : World} {ops : Array Oper} {rest : List Oper} {o : Oper} {a : Act} {Q : Exit → Act → World → Prop} (hw : Region.wanted o (yielded ops a.tmps) = true) (x y : Operand) (hop : o.op = .binOp .eql 30 x y 30)
    (s t : Sns) (hx : a.eval x = sval s) (hy : a.eval y = sval t) (h : wpList Tryz.prog ops Q rest (a.put o.dst (.bool (s == t))) w) : wpList Tryz.prog ops Q (o :: rest) a w := by
  refine wpList_step fun K hK => ?_
  rw [if_pos hw]
  unfold Go.Oper.wp execOp
  simp [hop, hx, hy, run_eqGuard_agg w .eql 30 x y _ _ Tryz.guard_sense, run_eql_struct, sense_eq, Result.andThen]
  exact hK _ _ h
/-! What comes in. -/
section
variable {H : Type} {enc : TypeId × Value → H} {w : World} {r : Reach} {base : Nat} {v : Value} {d : DataW H} {p : List MemPlace}
theorem Tryz.places_sense : (Tryz.prog.fieldsOf 30).toList.map (fun f => (f.type, f.offset)) = [(3, 0), (3, 1), (3, 2)] := by kernel_rfl
theorem shape_sense (fuel : Nat) (cs : List Value) (x : DataW H × List MemPlace) (h : DataW.trod enc Tryz.prog w 0 (fun _ => true) true fuel 30 cs = some x) : ∃ s : Sns, OkS s ∧ cs = sc s := by
  obtain ⟨hl, m0, y0, h0⟩ := shape_field Tryz.is_sense Tryz.places_sense 0 _ _ rfl h
  obtain ⟨_, m1, y1, h1⟩ := shape_field Tryz.is_sense Tryz.places_sense 1 _ _ rfl h
  obtain ⟨_, m2, y2, h2⟩ := shape_field Tryz.is_sense Tryz.places_sense 2 _ _ rfl h
  rw [show Tryz.prog.cellsOf 30 = 3 from by kernel_rfl] at hl
  rw [show Tryz.prog.cellsOf 3 = 1 from by kernel_rfl] at h0 h1 h2
  obtain ⟨n0, e0, w0⟩ := shape_int Tryz.underlying3 h0
  obtain ⟨n1, e1, w1⟩ := shape_int Tryz.underlying3 h1
  obtain ⟨n2, e2, w2⟩ := shape_int Tryz.underlying3 h2
  refine ⟨(n0, n1, n2), ⟨bounds_i64 w0, bounds_i64 w1, bounds_i64 w2⟩, ?_⟩
  match cs, hl with
  | [x0, x1, x2], _ =>
    simp at e0 e1 e2
    rw [e0, e1, e2]
theorem sv_flatten : ∀ css : List (List Value), (∀ cs ∈ css, ∃ s : Sns, OkS s ∧ cs = sc s) → ∃ L : List Sns, L.length = css.length ∧ (∀ s ∈ L, OkS s) ∧ css.flatten = sv L
  | [], _ => ⟨[], rfl, (fun d hd => by cases hd), rfl⟩
  | c :: css, h => by
    obtain ⟨X, hX, rfl⟩ := h c (by simp)
    obtain ⟨D, h1, h2, h3⟩ := sv_flatten css (fun cs hcs => h cs (by simp [hcs]))
    refine ⟨X :: D, by simp [h1], fun d hd => ?_, by rw [List.flatten_cons, h3, sv_cons]⟩
    rcases List.mem_cons.1 hd with rfl | hd
    · exact hX
    · exact h2 d hd
def Sl (w : World) (v : Value) (L : List Sns) : Prop := Rw 3 w v L.length (sv L) ∧ ∀ s ∈ L, OkS s
end
theorem Sl.later {w w' : World} {v : Value} {L : List Sns} (h : Sl w v L) (hl : Later w w') : Sl w' v L := ⟨h.1.later hl, h.2⟩
theorem Sl.nil (w : World) : Sl w (.slice none 0 0) [] := ⟨Rw.nil 3 w, fun s hs => by cases hs⟩
theorem sc_one (s : Sns) : ∀ u ∈ sc s, u.oneCell' = true := by
  intro u hu
  simp [sc] at hu
  rcases hu with rfl | rfl | rfl <;> rfl
/-- 'x := v', v a sense -/
theorem wpList_newS {w : World} {ops : Array Oper} {rest : List Oper} {o1 o2 : Oper} {a : Act} {Q : Exit → Act → World → Prop} (hg1 : o1.guard = none) (hg2 : o2.guard = none) (h1 : o1.op = .alloc 30) (d : Tmp) (hd : o1.dst = some d) (hd' : d < a.tmps.size) (y : Operand) (hy' : y ≠ .tmp d) (h2 : o2.op = .store 30 (.tmp d) y)
    (s : Sns) (hy : a.eval y = sval s)
    (h : ∀ (g : Nat) (w' : World), Box w' g 30 (sc s) → Later w w' → Hid (g = w.heap.size ∧ w' = w.alloc (.cells (sc s).toArray 30)) → wpList Tryz.prog ops Q rest ((a.put (some d) (.pointer (some ⟨g, 0, none⟩))).put o2.dst undef) w') : wpList Tryz.prog ops Q (o1 :: o2 :: rest) a w :=
  wpList_new hg1 hg2 30 h1 d hd hd' y hy' h2 #[.int .i64 0, .int .i64 0, .int .i64 0] (sc s) Tryz.zero_sense rfl hy (sc_one s) h
theorem wpList_neqS {w : World} {ops : Array Oper} {rest : List Oper} {o : Oper} {a : Act} {Q : Exit → Act → World → Prop} (hw : Region.wanted o (yielded ops a.tmps) = true) (x y : Operand) (hop : o.op = .binOp .neq 30 x y 30)
    (s t : Sns) (hx : a.eval x = sval s) (hy : a.eval y = sval t) (h : wpList Tryz.prog ops Q rest (a.put o.dst (.bool (!(s == t)))) w) : wpList Tryz.prog ops Q (o :: rest) a w := by
  refine wpList_step fun K hK => ?_
  rw [if_pos hw]
  unfold Go.Oper.wp execOp
  simp [hop, hx, hy, run_eqGuard_agg w .neq 30 x y _ _ Tryz.guard_sense, run_neq_struct, sense_eq, Result.andThen]
  exact hK _ _ h
/-- two results, the second one in a variable of its own -/
theorem results_tmp_cell' {fn : Func} {p q : Tmp} {ty : TypeId} (h : fn.results = #[.tmp q, .cell p ty]) (tmps : Array Value) (P : Program) (w : World) (b o : Nat) (hp : tmps.getD p undef = .pointer (some ⟨b, o, none⟩)) (v u : Value) (hl : (loadVar ty ⟨b, o, none⟩).run P w = .ok v w) (hq : tmps.getD q undef = u) :
    (results fn tmps).run P w = .ok (.tuple #[u, v]) w := by
  have ha : (asAddr (tmps.getD p undef)).run P w = .ok ⟨b, o, none⟩ w := by rw [hp]; rfl
  simp only [results, h]
  simp only [List.mapM_toArray, Sem.run_bind]
  simp [ha, hl, hq, -Array.getD_eq_getD_getElem?]
end Go.Proofs.YtfakboehmcimpaaGreat

namespace Go.Proofs.YtfakboehmcimpaaGreat
open Go.ChangeShapes Go.WideShapes Go.ChangeAt Go.RowKit
set_option linter.unusedVariables false
set_option maxRecDepth 4000
set_option linter.unusedSimpArgs false
/-! The document's answers for senses. -/
def b8 (x : Int) : UInt8 := UInt8.ofNat (x % 256).toNat
theorem b8_nat (x : Int) : ((b8 x).toNat : Int) = x % 256 := by
  have h1 : 0 ≤ x % 256 := Int.emod_nonneg _ (by omega)
  have h2 : x % 256 < 256 := Int.emod_lt_of_pos _ (by omega)
  simp only [b8, UInt8.toNat_ofNat']
  omega
def bytesL (s : Sns) : List UInt8 := [112, 0, b8 s.1, 0, 0, 0, 0, 10, 0, 0, 0, 0, b8 s.2.1, b8 s.2.2, 0, 0, 0, 0]
theorem bytesL_length (s : Sns) : (bytesL s).length = 18 := rfl
theorem bs_of_box {w : World} {g n : Nat} {t : TypeId} {xs : List Value} {l : List UInt8} (h : Box w g t xs) (hx : xs = bv l) (hl : l.length = n) (hn : n ≤ 1000000) : Bs w (.slice (some ⟨g, 0, none⟩) n n) l := by
  subst hx
  have hr : Rw 1 w (.slice (some ⟨g, 0, none⟩) n n) n (bv l) := ⟨by rw [bv_length, hl]; omega, by unfold maxLen; omega, _, n, rfl, Nat.le_refl _, .inr ⟨g, 0, rfl, h.range⟩⟩
  exact hr.bs.1
theorem rof_c (k c q : Int) (w : World) : Calls Tryz.prog 12 #[.int .i64 k, .int .i64 c, .int .i64 q] w fun e w' => e = .returned (sval (k, c, q)) ∧ Later w w' := by
  have B0 := hide (Box.new w 30 #[.int .i64 k, .int .i64 c, .int .i64 q])
  have L0 := hide ((Later.refl w).alloc (.cells #[.int .i64 k, .int .i64 c, .int .i64 q] 30))
  go_enter Tryz.func12, Tryz.ntmps12
  go_wp2
  exact bodyPost_ret (results_cell1 rfl _ _ _ w.heap.size 0 rfl (sval (k, c, q)) (run_loadVar_mid _ _ _ _ [.int .i64 k, .int .i64 c, .int .i64 q] _ B0.out.range Tryz.underlying30 rfl (by kernel_rfl))) rfl ⟨rfl, L0.out⟩
set_option maxHeartbeats 1000000 in
theorem rbytes_c (s : Sns) (w : World) : Calls Tryz.prog 34 #[sval s] w fun e w' => ∃ v, e = .returned v ∧ Later w w' ∧ Bs w' v (bytesL s) := by
  go_enter Tryz.func34, Tryz.ntmps34
  go_wp2
  go_ret
  refine ⟨_, rfl, ((Later.refl w).alloc _).alloc _, ?_⟩
  refine bs_of_box (Box.new' _ _ _ _ rfl _ (by simp)) ?_ (bytesL_length s) (by omega)
  simp [bv, bytesL, b8_nat]
/-! Which bytes are a sense's. -/
def strOf (l : List UInt8) : ByteArray := ⟨l.toArray⟩
theorem strOf_list (l : List UInt8) : (strOf l).toList = l := by rw [ByteArray.toList_eq]; simp [strOf]
theorem Bs.strOf {w : World} {v : Value} {l : List UInt8} (h : Bs w v l) : (convert 40 9 v).run Tryz.prog w = .ok (.string (strOf l)) w := h.str
end Go.Proofs.YtfakboehmcimpaaGreat
