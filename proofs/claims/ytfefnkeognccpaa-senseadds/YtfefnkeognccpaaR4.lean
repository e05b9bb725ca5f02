import Derived.Test.YtfefnkeognccpaaS4
namespace Go.Proofs.Ytfefnkeognccpaa
open Go.ChangeShapes Go.WideShapes Go.ChangeAt Go.RowKit
set_option linter.unusedVariables false
set_option linter.unusedSimpArgs false

/-! The document's answers for senses. -/
def b8 (x : Int) : UInt8 := UInt8.ofNat (x % 256).toNat
theorem b8_nat (x : Int) : ((b8 x).toNat : Int) = x % 256 := by
  have h1 : 0 ≤ x % 256 := Int.emod_nonneg _ (by omega)
  have h2 : x % 256 < 256 := Int.emod_lt_of_pos _ (by omega)
  simp only [b8, UInt8.toNat_ofNat']
  omega
theorem b8_byte (b : UInt8) : b8 (b.toNat : Int) = b := by
  have h := b8_nat (b.toNat : Int)
  have hb : b.toNat < 256 := UInt8.toNat_lt b
  apply UInt8.toNat_inj.1
  omega
def bytesL (s : Sns) : List UInt8 := [112, 0, b8 s.1, 0, 0, 0, 0, 10, 0, 0, 0, 0, b8 s.2.1, b8 s.2.2, 0, 0, 0, 0]
theorem bytesL_length (s : Sns) : (bytesL s).length = 18 := rfl

theorem bs_of_box {w : World} {g n : Nat} {t : TypeId} {xs : List Value} {l : List UInt8} (h : Box w g t xs) (hx : xs = bv l) (hl : l.length = n) (hn : n ≤ 1000000) : Bs w (.slice (some ⟨g, 0, none⟩) n n) l := by
  subst hx
  have hr : Rw 1 w (.slice (some ⟨g, 0, none⟩) n n) n (bv l) := ⟨by rw [bv_length, hl]; omega, by unfold maxLen; omega, _, n, rfl, Nat.le_refl _, .inr ⟨g, 0, rfl, h.range⟩⟩
  exact hr.bs.1
theorem rof_c (k c q : Int) (w : World) : Calls Try.prog 13 #[.int .i64 k, .int .i64 c, .int .i64 q] w fun e w' => e = .returned (sval (k, c, q)) ∧ Later w w' := by
  have B0 := hide (Box.new w 23 #[.int .i64 k, .int .i64 c, .int .i64 q])
  have L0 := hide ((Later.refl w).alloc (.cells #[.int .i64 k, .int .i64 c, .int .i64 q] 23))
  go_enter Try.func13, Try.ntmps13
  go_wp2
  exact bodyPost_ret (results_cell1 rfl _ _ _ w.heap.size 0 rfl (sval (k, c, q)) (run_loadVar_mid _ _ _ _ [.int .i64 k, .int .i64 c, .int .i64 q] _ B0.out.range Try.underlying23 rfl (by kernel_rfl))) rfl ⟨rfl, L0.out⟩
set_option maxHeartbeats 1000000 in
theorem rbytes_c (s : Sns) (w : World) : Calls Try.prog 11 #[sval s] w fun e w' => ∃ v, e = .returned v ∧ Later w w' ∧ Bs w' v (bytesL s) := by
  go_enter Try.func11, Try.ntmps11
  go_wp2
  go_ret
  refine ⟨_, rfl, ((Later.refl w).alloc _).alloc _, ?_⟩
  refine bs_of_box (Box.new' _ _ _ _ rfl _ (by simp)) ?_ (bytesL_length s) (by omega)
  simp [bv, bytesL, b8_nat]

/-! Which bytes are a sense's. -/
def sAt (l : List UInt8) : Sns := ((l.getD 2 0).toNat, (l.getD 12 0).toNat, (l.getD 13 0).toNat)
def parseB (l : List UInt8) : Bool := l.length == 18 && bytesL (sAt l) == l
def parseS (l : List UInt8) : Sns := if parseB l then sAt l else (0, 0, 0)
def strOf (l : List UInt8) : ByteArray := ⟨l.toArray⟩
theorem strOf_inj {l m : List UInt8} : strOf l = strOf m ↔ l = m := by
  constructor
  · intro h
    have := congrArg (fun b : ByteArray => b.data.toList) h
    simpa [strOf] using this
  · intro h; rw [h]
theorem strOf_list (l : List UInt8) : (strOf l).toList = l := by rw [ByteArray.toList_eq]; simp [strOf]
theorem Bs.strOf {w : World} {v : Value} {l : List UInt8} (h : Bs w v l) : (convert 24 9 v).run Try.prog w = .ok (.string (strOf l)) w := h.str

set_option maxRecDepth 20000 in
set_option maxHeartbeats 1000000 in
theorem rparse_c {v : Value} {l : List UInt8} (w : World) (h : Bs w v l) :
    Calls Try.prog 9 #[v] w fun e w' => e = .returned (.tuple #[sval (parseS l), .bool (parseB l)]) ∧ Later w w' := by
  have HB := hide h
  have hlm := h.1
  unfold maxLen at hlm
  obtain ⟨_, ad, cap, rfl, _, hd⟩ := h
  clear hd
  have BR := hide (Box.new w 23 #[.int .i64 0, .int .i64 0, .int .i64 0])
  have L0 := hide ((Later.refl w).alloc (.cells #[.int .i64 0, .int .i64 0, .int .i64 0] 23))
  by_cases h18 : l.length = 18
  case neg =>
    have hP : Hid (parseB l = false) := by simp [Hid, parseB]; omega
    obtain ⟨n, hn⟩ : ∃ n, n = l.length := ⟨_, rfl⟩
    rw [← hn] at HB hlm h18 ⊢
    have hb : ((n : Int) != 18) = true := by rw [bne_iff_ne]; omega
    clear hn
    go_enter Try.func9, Try.ntmps9
    go_wp2
    refine bodyPost_ret (results_cell_tmp rfl _ _ _ w.heap.size 0 rfl (sval (0, 0, 0)) (.bool false) (run_loadVar_mid _ _ _ _ [.int .i64 0, .int .i64 0, .int .i64 0] _ BR.out.range Try.underlying23 rfl (by kernel_rfl)) rfl) rfl ⟨?_, L0.out⟩
    simp [parseS, hP.out]
  obtain ⟨b, off, e, hr⟩ := HB.out.rw.lies? (by omega)
  subst e
  have c2 := hr 2 _ (bv_get_lt l 2 (by omega))
  have c12 := hr 12 _ (bv_get_lt l 12 (by omega))
  have c13 := hr 13 _ (bv_get_lt l 13 (by omega))
  have HS : Hid (sAt l = ((l[2].toNat : Int), (l[12].toNat : Int), (l[13].toNat : Int))) := by
    simp [Hid, sAt, List.getD, List.getElem?_eq_getElem (show 2 < l.length by omega), List.getElem?_eq_getElem (show 12 < l.length by omega), List.getElem?_eq_getElem (show 13 < l.length by omega)]
  have HP : Hid (parseB l = (bytesL (sAt l) == l)) := by simp [Hid, parseB, h18]
  generalize l[2] = x2 at *
  generalize l[12] = x12 at *
  generalize l[13] = x13 at *
  have hb2 : x2.toNat < 256 := UInt8.toNat_lt x2
  have hb12 : x12.toNat < 256 := UInt8.toNat_lt x12
  have hb13 : x13.toNat < 256 := UInt8.toNat_lt x13
  have hw2 : IntKind.i64.wrap (x2.toNat : Int) = (x2.toNat : Int) := by rw [IntKind.wrap_i64]; omega
  have hw12 : IntKind.i64.wrap (x12.toNat : Int) = (x12.toNat : Int) := by rw [IntKind.wrap_i64]; omega
  have hw13 : IntKind.i64.wrap (x13.toNat : Int) = (x13.toNat : Int) := by rw [IntKind.wrap_i64]; omega
  rw [h18] at HB ⊢
  clear hr hlm h18
  go_enter Try.func9, Try.ntmps9
  go_wp2_with fail
  have BR1 := BR
  generalize (w.alloc (.cells #[.int .i64 0, .int .i64 0, .int .i64 0] 23)) = w1 at *
  have hc := fun r => ((Later.refl w1).drew.trans (later_rg w1.drew r))
  have g2 := fun r => (L0.out.trans (hc r)).cellOf c2
  have g12 := fun r => (L0.out.trans (hc r)).cellOf c12
  have g13 := fun r => (L0.out.trans (hc r)).cellOf c13
  refine wp_region_tree [0, 1, 2, 3, 4, 5, 6, 7, 8, 9, 10, 11, 12] [13] [14] (by kernel_rfl) (by kernel_rfl) (by kernel_rfl) (by kernel_rfl) ?_
  iterate 12 (refine wpT_mild rfl (fun K hK => ?_); go_simp; refine hK _ ?_; clear hK K)
  refine wpT_call rfl (by kernel_rfl) 13 (Plain.of (by kernel_rfl)) [.tmp 12, .tmp 16, .tmp 20] _ rfl [.int .i64 (x2.toNat : Int), .int .i64 (x12.toNat : Int), .int .i64 (x13.toNat : Int)] rfl (sval ((x2.toNat : Int), (x12.toNat : Int), (x13.toNat : Int))) (fun wx hx => rof_c _ _ _ wx) ?_
  clear g2 g12 g13 hc c2 c12 c13
  refine wpT_one (fun v W => ∃ g, v = .pointer (some ⟨g, 0, none⟩) ∧ w1.heap.size ≤ g ∧ Box W g 23 [.int .i64 0, .int .i64 0, .int .i64 0]) (by kernel_rfl) (fun v W W' hl ⟨g, h1, h2, h3⟩ => ⟨g, h1, h2, h3.later hl⟩) (fun W hl => ?_) ?_
  · refine lVal_step rfl (fun K hK => ?_)
    go_simp
    exact ⟨(Later.refl W).alloc _, hK _ _ ⟨W.heap.size, rfl, ((Later.refl w1).drew.trans hl).size, Box.new W _ _⟩⟩
  intro v W hl ⟨g, hv, hg, hB⟩
  subst hv
  have LW := (Later.refl w1).drew.trans hl
  have k0 := hB.cell 0
  have k1 := hB.cell 1
  have k2 := hB.cell 2
  have f0 := hB.frozen 0
  have f1 := hB.frozen 1
  have f2 := hB.frozen 2
  have BS : Hid (Box (((W.setCell ⟨g, 0, none⟩ (.int .i64 (x2.toNat : Int))).setCell ⟨g, 1, none⟩ (.int .i64 (x12.toNat : Int))).setCell ⟨g, 2, none⟩ (.int .i64 (x13.toNat : Int))) g 23 [.int .i64 (x2.toNat : Int), .int .i64 (x12.toNat : Int), .int .i64 (x13.toNat : Int)]) := ((hB.set 0 _).set 1 _).set 2 _
  have L2 : Hid (Later w1 (((W.setCell ⟨g, 0, none⟩ (.int .i64 (x2.toNat : Int))).setCell ⟨g, 1, none⟩ (.int .i64 (x12.toNat : Int))).setCell ⟨g, 2, none⟩ (.int .i64 (x13.toNat : Int)))) := ((LW.setCell (by simpa using hg) _).setCell (by simpa using hg) _).setCell (by simpa using hg) _
  refine wpL_cons rfl (fun K hK => ?_)
  simp only [dstOf]
  go_simp
  refine hK _ _ (wpL_nil ?_)
  clear hK K k0 k1 k2 f0 f1 f2 hl LW hB
  generalize (((W.setCell ⟨g, 0, none⟩ (.int .i64 (x2.toNat : Int))).setCell ⟨g, 1, none⟩ (.int .i64 (x12.toNat : Int))).setCell ⟨g, 2, none⟩ (.int .i64 (x13.toNat : Int))) = w2 at *
  have BR2 := hide (BR.out.later L2.out)
  have LL := hide (L0.out.trans L2.out)
  have hgr : g ≠ w.heap.size := by have := BR.out.lt; omega
  clear L2 BR1 BR L0
  go_wp2_with fail
  have hc := fun r => ((Later.refl w2).drew.trans (later_rg w2.drew r))
  have g0 := fun r => (BS.out.later (hc r)).cell 0
  have g1 := fun r => (BS.out.later (hc r)).cell 1
  have g2 := fun r => (BS.out.later (hc r)).cell 2
  have gs := fun r => (HB.out.later (LL.out.trans (hc r))).strOf
  refine wp_region_tree [0, 3, 4] [1, 2] [5] (by kernel_rfl) (by kernel_rfl) (by kernel_rfl) (by kernel_rfl) ?_
  iterate 3 (refine wpT_mild rfl (fun K hK => ?_); go_simp; refine hK _ ?_; clear hK K)
  clear g0 g1 g2 gs hc
  have HS2 := HS
  generalize hS : (((x2.toNat : Int), (x12.toNat : Int), (x13.toNat : Int)) : Sns) = S at *
  refine wpT_bag (fun i => match i with | 2 => [1] | _ => []) (fun i vals W => match i with
    | 1 => Bs W (vals 1) (bytesL S)
    | 2 => vals 2 = .string (strOf (bytesL S))
    | _ => True) (by kernel_rfl) ?b1 ?b2 ?b3 ?b4
  case b1 =>
    intro i hi vals W W' hl h
    simp only [List.mem_cons, List.not_mem_nil, or_false] at hi
    rcases hi with rfl | rfl
    · exact Bs.later h hl
    · exact h
  case b2 =>
    intro i hi k hk hne hds vals v W h
    simp only [List.mem_cons, List.not_mem_nil, or_false] at hi hk
    rcases hi with rfl | rfl <;> rcases hk with rfl | rfl <;> first | (exact absurd rfl hne) | (simpa [upd] using h) | (simp at hds)
  case b3 =>
    intro i hi vals W hl hdep
    simp only [List.mem_cons, List.not_mem_nil, or_false] at hi
    rcases hi with rfl | rfl
    · refine lVal_step rfl (fun K hK => ?_)
      simp only [putAll, List.foldl]
      go_simp
      have hb := rbytes_c S W
      rw [← hS] at hb
      refine hb.mono ?_
      rintro e w3 ⟨v3, rfl, hl3, h3⟩
      rw [hS] at h3
      exact ⟨v3, rfl, hl3, hK _ _ (by simpa [upd] using h3)⟩
    · have h1 : Bs W (vals 1) (bytesL S) := hdep 1 (by simp)
      have h2 := h1.strOf
      refine lVal_step rfl (fun K hK => ?_)
      simp only [putAll, List.foldl, dstOf]
      go_simp
      exact ⟨Later.refl W, hK _ _ (by simp [upd])⟩
  case b4 =>
    intro vals W hl hall
    have h2 : vals 2 = .string (strOf (bytesL S)) := hall 2 (by simp)
    have LW := (Later.refl w2).drew.trans hl
    have BR3 := hide (BR2.out.later LW)
    have BS3 := hide (BS.out.later LW)
    have L3 := hide (LL.out.trans LW)
    clear hall hl LW
    generalize vals 1 = v1 at *
    simp only [putAll, List.foldl, dstOf, h2]
    refine wpL_cons rfl (fun K hK => ?_)
    go_simp
    rw [strOf_list, strOf_list]
    refine hK _ _ (wpL_nil ?_)
    clear hK K h2
    have r0 := BR3.out.cell 0
    have r1 := BR3.out.cell 1
    have r2 := BR3.out.cell 2
    have f0 := BR3.out.frozen 0
    have f1 := BR3.out.frozen 1
    have f2 := BR3.out.frozen 2
    have s0 := BS3.out.cell 0
    have s1 := BS3.out.cell 1
    have s2 := BS3.out.cell 2
    have HP2 : Hid (parseB l = (bytesL S == l)) := by unfold Hid; rw [HP.out, HS.out]
    have hS1 : S.1 = (x2.toNat : Int) ∧ S.2.1 = (x12.toNat : Int) ∧ S.2.2 = (x13.toNat : Int) := by rw [← hS]; exact ⟨rfl, rfl, rfl⟩
    have HS3 := hide hS1
    clear hS1 hS
    cases hPb : (bytesL S == l) with
    | true =>
      rw [hPb] at HP2
      have BZ : Hid (Box (((W.setCell ⟨w.heap.size, 0, none⟩ (.int .i64 (x2.toNat : Int))).setCell ⟨w.heap.size, 1, none⟩ (.int .i64 (x12.toNat : Int))).setCell ⟨w.heap.size, 2, none⟩ (.int .i64 (x13.toNat : Int))) w.heap.size 23 [.int .i64 (x2.toNat : Int), .int .i64 (x12.toNat : Int), .int .i64 (x13.toNat : Int)]) := ((BR3.out.set 0 _).set 1 _).set 2 _
      have LZ : Hid (Later w (((W.setCell ⟨w.heap.size, 0, none⟩ (.int .i64 (x2.toNat : Int))).setCell ⟨w.heap.size, 1, none⟩ (.int .i64 (x12.toNat : Int))).setCell ⟨w.heap.size, 2, none⟩ (.int .i64 (x13.toNat : Int)))) := ((L3.out.setCell (by simp) _).setCell (by simp) _).setCell (by simp) _
      go_wp2
      refine bodyPost_ret (results_cell_tmp rfl _ _ _ w.heap.size 0 rfl (.agg #[.int .i64 (x2.toNat : Int), .int .i64 (x12.toNat : Int), .int .i64 (x13.toNat : Int)]) (.bool true) (run_loadVar_mid _ _ _ _ [.int .i64 (x2.toNat : Int), .int .i64 (x12.toNat : Int), .int .i64 (x13.toNat : Int)] _ BZ.out.range Try.underlying23 rfl (by kernel_rfl)) rfl) rfl ⟨?_, LZ.out⟩
      rw [parseS, HP2.out, if_pos rfl, HS.out]
      simp [HS3.out]
    | false =>
      rw [hPb] at HP2
      have BZ : Hid (Box (((W.setCell ⟨w.heap.size, 0, none⟩ (.int .i64 0)).setCell ⟨w.heap.size, 1, none⟩ (.int .i64 0)).setCell ⟨w.heap.size, 2, none⟩ (.int .i64 0)) w.heap.size 23 [.int .i64 0, .int .i64 0, .int .i64 0]) := ((BR3.out.set 0 _).set 1 _).set 2 _
      have LZ : Hid (Later w (((W.setCell ⟨w.heap.size, 0, none⟩ (.int .i64 0)).setCell ⟨w.heap.size, 1, none⟩ (.int .i64 0)).setCell ⟨w.heap.size, 2, none⟩ (.int .i64 0))) := ((L3.out.setCell (by simp) _).setCell (by simp) _).setCell (by simp) _
      go_wp2
      refine bodyPost_ret (results_cell_tmp rfl _ _ _ w.heap.size 0 rfl (sval (0, 0, 0)) (.bool false) (run_loadVar_mid _ _ _ _ [.int .i64 0, .int .i64 0, .int .i64 0] _ BZ.out.range Try.underlying23 rfl (by kernel_rfl)) rfl) rfl ⟨?_, LZ.out⟩
      simp [parseS, HP2.out]
end Go.Proofs.Ytfefnkeognccpaa
