import Derived.Test.YtccdgpadjfjoeaaMAI
import Derived.Test.YtccdgpadjfjoeaaMAJ
namespace Go.Proofs.Ytccdgpadjfjoeaa
open Go.ChangeShapes Go.WideShapes Go.ChangeAt Go.RowKit
set_option linter.unusedVariables false
set_option linter.unusedSimpArgs false

/-! allows: is all as it must be? -/
theorem rv_cons (r : Rul) (L : List Rul) : rv (r :: L) = rc r ++ rv L := by simp [rv]
theorem rv_drop : ∀ (L : List Rul) (k : Nat), (rv L).drop (k * 3) = rv (L.drop k)
  | L, 0 => by simp
  | [], k + 1 => by simp [rv]
  | x :: L, k + 1 => by
    rw [rv_cons, List.drop_succ_cons, ← rv_drop L k, List.drop_append, List.drop_of_length_le (by simp [rc]; omega), List.nil_append]
    congr 1; simp [rc]; omega
theorem rv_at (L : List Rul) (k : Nat) (hk : k < L.length) : (rv L)[k * 3]? = some (.int .u16 (L[k].1 : Int)) ∧ (rv L)[k * 3 + 1]? = some (.int .u64 (L[k].2.1 : Int)) ∧ (rv L)[k * 3 + 2]? = some (.int .u64 (L[k].2.2 : Int)) := by
  have h : ∀ j, (rv L)[k * 3 + j]? = (rv (L.drop k))[j]? := fun j => by rw [← rv_drop, List.getElem?_drop]
  have h0 := h 0
  rw [Nat.add_zero] at h0
  rw [h0, h 1, h 2, List.drop_eq_getElem_cons hk, rv_cons]
  exact ⟨rfl, rfl, rfl⟩
def OkR (r : Rul) : Prop := r.1 < 65536 ∧ r.2.1 ≤ 18446744073709551615 ∧ r.2.2 ≤ 18446744073709551615
def okRule (r : Rul) (l : List UInt8) : Bool := decide (r.2.1 ≤ readP r.1 l) && decide (readP r.1 l ≤ r.2.2)
def allowsB (L : List Rul) (l : List UInt8) : Bool := L.all fun r => okRule r l
theorem readP_le (p : Nat) (l : List UInt8) : readP p l ≤ 18446744073709551615 := bitsI_le _ _ _
theorem FormV.later {w w' : World} {v : Value} {f : Frm} (h : FormV w v f) (hl : Later w w') : FormV w' v f := by
  obtain ⟨s, rfl, hr⟩ := h
  exact ⟨s, rfl, hr.later hl⟩
set_option maxHeartbeats 1000000 in
theorem allows_c (f : Frm) {u v : Value} {l : List UInt8} (w : World) (hf : FormV w u f) (h : Bs w v l) (ho : ∀ r ∈ f.2.2.2.2.2, OkR r) :
    Calls Try.prog 21 #[u, v] w fun e w' => e = .returned (.bool (allowsB f.2.2.2.2.2 l)) ∧ Later w w' := by
  obtain ⟨s, rfl, hr⟩ := hf
  obtain ⟨f1, f2, f3, f4, f5, L⟩ := f
  simp only at hr ho ⊢
  obtain ⟨k, hk⟩ : ∃ k, k = L.length := ⟨_, rfl⟩
  rw [← hk] at hr
  obtain ⟨ad, cap, rfl⟩ := hr.shape
  have hkm := hr.2.1
  unfold maxLen at hkm
  have HL := hide hr
  have HK := hide hk
  have HO := hide ho
  have HB := hide h
  clear hr hk ho h
  have BX0 := hide (Box.new w 47 #[.int .u16 (f1 : Int), .int .u16 (f2 : Int), .int .u16 (f3 : Int), .int .u16 (f4 : Int), .int .i64 (f5 : Int), .slice ad k cap])
  have L0 := hide ((Later.refl w).alloc (.cells #[.int .u16 (f1 : Int), .int .u16 (f2 : Int), .int .u16 (f3 : Int), .int .u16 (f4 : Int), .int .i64 (f5 : Int), .slice ad k cap] 47))
  go_enter Try.func21, Try.ntmps21
  go_wp2_with fail
  go_loopw [11] (fun i wr => ∃ q : Nat, q ≤ k ∧ i = .int .i64 q ∧ Hid (∀ j (hj : j < L.length), j < q → okRule L[j] l = true) ∧ Hid (Later w wr)) (fun i _ => k - (intOf i).toNat)
  case atStart => exact ⟨0, Nat.zero_le _, rfl, fun _ _ h => by omega, L0⟩
  case round =>
    clear BX0 L0
    obtain ⟨q, hq, rfl, hall, hl⟩ := hrel
    by_cases hlt : q < k
    · obtain ⟨b, off, e, hr⟩ := (HL.out.later hl.out).lies? (by omega)
      subst e
      have hqL : q < L.length := by have := HK.out; omega
      have hat := rv_at L q hqL
      have c0 := hr _ _ hat.1
      have c1 := hr _ _ hat.2.1
      have c2 := hr _ _ hat.2.2
      have hyes : Hid (okRule L[q] l = false → allowsB L l = false) := fun h => by
        rw [allowsB, List.all_eq_false]; exact ⟨_, List.getElem_mem hqL, by simp [h]⟩
      have hno : Hid (okRule L[q] l = true → ∀ j (hj : j < L.length), j < q + 1 → okRule L[j] l = true) := by
        intro h j hj hjq
        by_cases hjq' : j = q
        · subst hjq'; exact h
        · exact hall.out j hj (by omega)
      obtain ⟨o1, o2, o3⟩ := HO.out _ (List.getElem_mem hqL)
      have ht : Hid (okRule L[q] l = (decide (L[q].2.1 ≤ readP L[q].1 l) && decide (readP L[q].1 l ≤ L[q].2.2))) := rfl
      generalize L[q] = t at *
      obtain ⟨t1, t2, t3⟩ := t
      simp only at c0 c1 c2 o1 o2 o3
      clear hat hr hall
      rw [← Nat.add_assoc] at c1 c2
      go_wp2_with fail
      have BR := hide (Box.new wr 64 #[.int .u16 (t1 : Int), .int .u64 (t2 : Int), .int .u64 (t3 : Int)])
      have L1 := hide (hl.out.trans ((Later.refl wr).alloc (.cells #[.int .u16 (t1 : Int), .int .u64 (t2 : Int), .int .u64 (t3 : Int)] 64)))
      refine (pread_c t1 _ o1 (HB.out.later L1.out)).mono ?_
      rintro e w2 ⟨rfl, hl2⟩
      replace BR := hide (BR.out.later hl2)
      replace L1 := hide (L1.out.trans hl2)
      have hx := readP_le t1 l
      have d0 := BR.out.cell 0
      have d1 := BR.out.cell 1
      have d2 := BR.out.cell 2
      clear hl2
      generalize readP t1 l = x at *
      by_cases hA : x < t2
      · have hno' : Hid (allowsB L l = false) := hyes.out (by rw [ht.out]; simp; omega)
        have hAb : decide ((x : Int) < (t2 : Int)) = true := by simp; omega
        go_wp2
        go_ret
        exact ⟨ret_bool hno'.out.symm, L1.out⟩
      · have hAb : decide ((x : Int) < (t2 : Int)) = false := by simp; omega
        by_cases hC : t3 < x
        · have hno' : Hid (allowsB L l = false) := hyes.out (by rw [ht.out]; simp; omega)
          have hCb : decide ((t3 : Int) < (x : Int)) = true := by simp; omega
          go_wp2
          go_ret
          exact ⟨ret_bool hno'.out.symm, L1.out⟩
        · have hCb : decide ((t3 : Int) < (x : Int)) = false := by simp; omega
          have hyes' := hno.out (by rw [ht.out]; simp; omega)
          go_wp2
          exact ⟨⟨q + 1, by omega, by simp, hyes', L1⟩, by simp only [intOf]; omega⟩
    · have hqk : q = k := by omega
      have hb : decide ((q : Int) < (k : Int)) = false := by simp; omega
      have hok : Hid (allowsB L l = true) := by
        rw [Hid, allowsB, List.all_eq_true]
        intro r hr
        obtain ⟨j, hj, rfl⟩ := List.getElem_of_mem hr
        exact hall.out j hj (by have := HK.out; omega)
      clear hall
      go_wp2
      go_ret
      exact ⟨ret_bool hok.out.symm, hl.out⟩
end Go.Proofs.Ytccdgpadjfjoeaa

namespace Go.Proofs.Ytccdgpadjfjoeaa
open Go.ChangeShapes Go.WideShapes Go.ChangeAt Go.RowKit
set_option linter.unusedVariables false
set_option linter.unusedSimpArgs false

/-! read: the command that the bytes say. -/
abbrev Cmd := Int × Nat × Int × Int × Int
abbrev cc (c : Cmd) : List Value := [.int .i64 c.1, .int .u64 (c.2.1 : Int), .int .i64 c.2.2.1, .int .i64 c.2.2.2.1, .int .i64 c.2.2.2.2]
abbrev cval (c : Cmd) : Value := .agg #[.int .i64 c.1, .int .u64 (c.2.1 : Int), .int .i64 c.2.2.1, .int .i64 c.2.2.2.1, .int .i64 c.2.2.2.2]
theorem load_cmd {w : World} {g : Nat} {xs : List Value} {c : Cmd} (h : Box w g 26 xs) (hx : xs = cc c) : (loadVar 26 ⟨g, 0, none⟩).run Try.prog w = .ok (cval c) w := by
  subst hx
  exact run_loadVar_mid _ _ _ _ (cc c) _ h.range Try.underlying26 rfl (by kernel_rfl)
theorem cc_one (c : Cmd) : ∀ u ∈ cc c, u.oneCell' = true := by
  intro u hu
  simp [cc] at hu
  rcases hu with rfl | rfl | rfl | rfl | rfl <;> rfl
theorem Try.info_cmd : (Try.prog.info? 26).map (·.size) = some 5 := by kernel_rfl
def readN (f : Frm) (l : List UInt8) : Nat := if readP f.2.1 l = 0 then f.2.2.2.2.1 else readP f.2.1 l
def readC (f : Frm) (l : List UInt8) : Cmd := (0, readP f.1 l, (readN f l : Nat), (readP f.2.2.1 l : Nat), (readP f.2.2.2.1 l : Nat))
def OkF (f : Frm) : Prop := f.1 < 65536 ∧ f.2.1 < 65536 ∧ f.2.2.1 < 65536 ∧ f.2.2.2.1 < 65536 ∧ f.2.2.2.2.1 ≤ 1000 ∧ (∀ l, readP f.2.1 l < 4294967296) ∧ (∀ l, readP f.2.2.1 l < 4294967296) ∧ (∀ l, readP f.2.2.2.1 l < 4294967296)
set_option maxHeartbeats 1000000 in
theorem fread_c (f : Frm) {u v : Value} {l : List UInt8} (w : World) (hf : FormV w u f) (h : Bs w v l) (ho : OkF f) :
    Calls Try.prog 23 #[u, v] w fun e w' => e = .returned (cval (readC f l)) ∧ Later w w' := by
  obtain ⟨s, rfl, hr⟩ := hf
  obtain ⟨ad, cap, rfl⟩ := hr.shape
  clear hr
  have HB := hide h
  clear h
  obtain ⟨f1, f2, f3, f4, f5, L⟩ := f
  simp only
  generalize L.length = k
  obtain ⟨o1, o2, o3, o4, o5, o6, o7, o8⟩ := ho
  simp only at o1 o2 o3 o4 o5 o6 o7 o8
  have HR : Hid (readC (f1, f2, f3, f4, f5, L) l = (0, readP f1 l, ((if readP f2 l = 0 then f5 else readP f2 l : Nat) : Int), (readP f3 l : Int), (readP f4 l : Int))) := rfl
  have h1 := readP_le f1 l
  have h2 := o6 l
  have h3 := o7 l
  have h4 := o8 l
  clear o6 o7 o8
  have hw2 : IntKind.i64.wrap ((readP f2 l : Nat) : Int) = ((readP f2 l : Nat) : Int) := by rw [IntKind.wrap_i64]; omega
  have hw3 : IntKind.i64.wrap ((readP f3 l : Nat) : Int) = ((readP f3 l : Nat) : Int) := by rw [IntKind.wrap_i64]; omega
  have hw4 : IntKind.i64.wrap ((readP f4 l : Nat) : Int) = ((readP f4 l : Nat) : Int) := by rw [IntKind.wrap_i64]; omega
  have BX := hide ((Box.new w 47 #[.int .u16 (f1 : Int), .int .u16 (f2 : Int), .int .u16 (f3 : Int), .int .u16 (f4 : Int), .int .i64 (f5 : Int), .slice ad k cap]).alloc (.cells #[.int .i64 0, .int .u64 0, .int .i64 0, .int .i64 0, .int .i64 0] 26))
  have BR := hide (Box.new' (w.alloc (.cells #[.int .u16 (f1 : Int), .int .u16 (f2 : Int), .int .u16 (f3 : Int), .int .u16 (f4 : Int), .int .i64 (f5 : Int), .slice ad k cap] 47)) 26 #[.int .i64 0, .int .u64 0, .int .i64 0, .int .i64 0, .int .i64 0] _ rfl (w.heap.size + 1) (by simp))
  have L0 := hide (((Later.refl w).alloc (.cells #[.int .u16 (f1 : Int), .int .u16 (f2 : Int), .int .u16 (f3 : Int), .int .u16 (f4 : Int), .int .i64 (f5 : Int), .slice ad k cap] 47)).alloc (.cells #[.int .i64 0, .int .u64 0, .int .i64 0, .int .i64 0, .int .i64 0] 26))
  go_enter Try.func23, Try.ntmps23
  go_wp2_with fail
  generalize ((w.alloc (.cells #[.int .u16 (f1 : Int), .int .u16 (f2 : Int), .int .u16 (f3 : Int), .int .u16 (f4 : Int), .int .i64 (f5 : Int), .slice ad k cap] 47)).alloc (.cells #[.int .i64 0, .int .u64 0, .int .i64 0, .int .i64 0, .int .i64 0] 26)) = w1 at *
  have hc := fun r => ((Later.refl w1).drew.trans (later_rg w1.drew r))
  have x0 := fun r => (BX.out.later (hc r)).cell 0
  have x1 := fun r => (BX.out.later (hc r)).cell 1
  have x2 := fun r => (BX.out.later (hc r)).cell 2
  have x3 := fun r => (BX.out.later (hc r)).cell 3
  refine wp_region_tree [0, 1, 2, 3, 4, 5, 6, 7, 8, 9, 10, 11, 12, 13, 14, 15, 16, 17, 18, 19] [20] [21] (by kernel_rfl) (by kernel_rfl) (by kernel_rfl) (by kernel_rfl) ?_
  iterate 3 (refine wpT_mild rfl (fun K hK => ?_); go_simp; refine hK _ ?_; clear hK K)
  refine wpT_call rfl (by kernel_rfl) 35 (Plain.of (by kernel_rfl)) [.tmp 7, .tmp 8] _ rfl [.int .u16 (f1 : Int), v] rfl (.int .u64 (readP f1 l : Nat)) (fun wx hx => pread_c f1 wx o1 (HB.out.later (L0.out.trans ((Later.refl w1).drew.trans hx)))) ?_
  iterate 3 (refine wpT_mild rfl (fun K hK => ?_); go_simp; refine hK _ ?_; clear hK K)
  refine wpT_call rfl (by kernel_rfl) 35 (Plain.of (by kernel_rfl)) [.tmp 11, .tmp 12] _ rfl [.int .u16 (f2 : Int), v] rfl (.int .u64 (readP f2 l : Nat)) (fun wx hx => pread_c f2 wx o2 (HB.out.later (L0.out.trans ((Later.refl w1).drew.trans hx)))) ?_
  iterate 4 (refine wpT_mild rfl (fun K hK => ?_); go_simp; refine hK _ ?_; clear hK K)
  refine wpT_call rfl (by kernel_rfl) 35 (Plain.of (by kernel_rfl)) [.tmp 16, .tmp 17] _ rfl [.int .u16 (f3 : Int), v] rfl (.int .u64 (readP f3 l : Nat)) (fun wx hx => pread_c f3 wx o3 (HB.out.later (L0.out.trans ((Later.refl w1).drew.trans hx)))) ?_
  iterate 4 (refine wpT_mild rfl (fun K hK => ?_); go_simp; refine hK _ ?_; clear hK K)
  refine wpT_call rfl (by kernel_rfl) 35 (Plain.of (by kernel_rfl)) [.tmp 21, .tmp 22] _ rfl [.int .u16 (f4 : Int), v] rfl (.int .u64 (readP f4 l : Nat)) (fun wx hx => pread_c f4 wx o4 (HB.out.later (L0.out.trans ((Later.refl w1).drew.trans hx)))) ?_
  clear HB x0 x1 x2 x3 hc
  generalize readP f1 l = a1 at *
  generalize readP f2 l = a2 at *
  generalize readP f3 l = a3 at *
  generalize readP f4 l = a4 at *
  iterate 2 (refine wpT_mild rfl (fun K hK => ?_); go_simp; refine hK _ ?_; clear hK K)
  refine wpT_one (fun v W => ∃ g, v = .pointer (some ⟨g, 0, none⟩) ∧ w1.heap.size ≤ g ∧ Box W g 26 [.int .i64 0, .int .u64 0, .int .i64 0, .int .i64 0, .int .i64 0]) (by kernel_rfl) (fun v W W' hl ⟨g, h1, h2, h3⟩ => ⟨g, h1, h2, h3.later hl⟩) (fun W hl => ?_) ?_
  · refine lVal_step rfl (fun K hK => ?_)
    go_simp
    exact ⟨(Later.refl W).alloc _, hK _ _ ⟨W.heap.size, rfl, ((Later.refl w1).drew.trans hl).size, Box.new W _ _⟩⟩
  intro v W hl ⟨g, hv, hg, hB⟩
  subst hv
  have LW := (Later.refl w1).drew.trans hl
  have k0 := hB.cell 0
  have k1 := hB.cell 1
  have k2 := hB.cell 2
  have k3 := hB.cell 3
  have k4 := hB.cell 4
  have q0 := hB.frozen 0
  have q1 := hB.frozen 1
  have q2 := hB.frozen 2
  have q3 := hB.frozen 3
  have q4 := hB.frozen 4
  have BS : Hid (Box (((((W.setCell ⟨g, 0, none⟩ (.int .i64 0)).setCell ⟨g, 1, none⟩ (.int .u64 (a1 : Int))).setCell ⟨g, 2, none⟩ (.int .i64 (a2 : Int))).setCell ⟨g, 3, none⟩ (.int .i64 (a3 : Int))).setCell ⟨g, 4, none⟩ (.int .i64 (a4 : Int))) g 26 [.int .i64 0, .int .u64 (a1 : Int), .int .i64 (a2 : Int), .int .i64 (a3 : Int), .int .i64 (a4 : Int)]) := ((((hB.set 0 _).set 1 _).set 2 _).set 3 _).set 4 _
  have L2 : Hid (Later w1 (((((W.setCell ⟨g, 0, none⟩ (.int .i64 0)).setCell ⟨g, 1, none⟩ (.int .u64 (a1 : Int))).setCell ⟨g, 2, none⟩ (.int .i64 (a2 : Int))).setCell ⟨g, 3, none⟩ (.int .i64 (a3 : Int))).setCell ⟨g, 4, none⟩ (.int .i64 (a4 : Int)))) := ((((LW.setCell (by simpa using hg) _).setCell (by simpa using hg) _).setCell (by simpa using hg) _).setCell (by simpa using hg) _).setCell (by simpa using hg) _
  refine wpL_cons rfl (fun K hK => ?_)
  simp only [dstOf]
  go_simp
  refine hK _ _ (wpL_nil ?_)
  clear hK K k0 k1 k2 k3 k4 q0 q1 q2 q3 q4 hl LW hB hw2 hw3 hw4
  generalize (((((W.setCell ⟨g, 0, none⟩ (.int .i64 0)).setCell ⟨g, 1, none⟩ (.int .u64 (a1 : Int))).setCell ⟨g, 2, none⟩ (.int .i64 (a2 : Int))).setCell ⟨g, 3, none⟩ (.int .i64 (a3 : Int))).setCell ⟨g, 4, none⟩ (.int .i64 (a4 : Int))) = w2 at *
  have BX2 := hide (BX.out.later L2.out)
  have BR2 := hide (BR.out.later L2.out)
  have LL := hide (L0.out.trans L2.out)
  have hgr : Hid (w.heap.size + 1 ≠ g) := by have := BR.out.lt; intro e; omega
  have hgx : Hid (w.heap.size ≤ g) := by have := L0.out.size; exact Nat.le_trans this hg
  clear L2 BX BR L0 hg
  have d2 := BS.out.cell 2
  have p2 := BS.out.frozen 2
  have d0 := BS.out.cell 0
  have d1 := BS.out.cell 1
  have d3 := BS.out.cell 3
  have d4 := BS.out.cell 4
  have y4 := BX2.out.cell 4
  by_cases hz : a2 = 0
  · have hzb : ((a2 : Int) == 0) = true := by simp [hz]
    have HR' : Hid (readC (f1, f2, f3, f4, f5, L) l = (0, a1, (f5 : Int), (a3 : Int), (a4 : Int))) := by rw [Hid, HR.out, if_pos hz]
    clear hz HR
    have BT : Hid (Box (w2.setCell ⟨g, 2, none⟩ (.int .i64 (f5 : Int))) g 26 [.int .i64 0, .int .u64 (a1 : Int), .int .i64 (f5 : Int), .int .i64 (a3 : Int), .int .i64 (a4 : Int)]) := BS.out.set 2 _
    have BR3 : Hid (Box (w2.setCell ⟨g, 2, none⟩ (.int .i64 (f5 : Int))) (w.heap.size + 1) 26 [.int .i64 0, .int .u64 0, .int .i64 0, .int .i64 0, .int .i64 0]) := BR2.out.other _ _ hgr.out
    have LT : Hid (Later w (w2.setCell ⟨g, 2, none⟩ (.int .i64 (f5 : Int)))) := LL.out.setCell hgx.out _
    have z0 := BT.out.cell 0
    have z1 := BT.out.cell 1
    have z2 := BT.out.cell 2
    have z3 := BT.out.cell 3
    have z4 := BT.out.cell 4
    go_wp2_with (refine wpList_storeU rfl 26 (.tmp 4) (.tmp 32) rfl (w.heap.size + 1) 0 rfl (cc (0, a1, (f5 : Int), (a3 : Int), (a4 : Int))) rfl Try.info_cmd (cc_one _) _ _ BR3.out (by simp) ?_)
    intro w3 hw3
    have BF : Hid (Box w3 (w.heap.size + 1) 26 (cc (0, a1, (f5 : Int), (a3 : Int), (a4 : Int)))) := by rw [hw3.out]; exact BR3.out.all _ rfl
    have LF : Hid (Later w w3) := by rw [hw3.out]; exact LT.out.setCells (Nat.le_succ _) _ _
    clear hw3
    go_wp2
    refine bodyPost_ret (results_cell1 rfl _ _ _ (w.heap.size + 1) 0 rfl _ (load_cmd (c := (0, a1, (f5 : Int), (a3 : Int), (a4 : Int))) BF.out rfl)) rfl ⟨by rw [HR'.out], LF.out⟩
  · have hzb : ((a2 : Int) == 0) = false := by simp [hz]
    have HR' : Hid (readC (f1, f2, f3, f4, f5, L) l = (0, a1, (a2 : Int), (a3 : Int), (a4 : Int))) := by rw [Hid, HR.out, if_neg hz]
    clear hz HR
    go_wp2_with (refine wpList_storeU rfl 26 (.tmp 4) (.tmp 32) rfl (w.heap.size + 1) 0 rfl (cc (0, a1, (a2 : Int), (a3 : Int), (a4 : Int))) rfl Try.info_cmd (cc_one _) _ _ BR2.out (by simp) ?_)
    intro w3 hw3
    have BF : Hid (Box w3 (w.heap.size + 1) 26 (cc (0, a1, (a2 : Int), (a3 : Int), (a4 : Int)))) := by rw [hw3.out]; exact BR2.out.all _ rfl
    have LF : Hid (Later w w3) := by rw [hw3.out]; exact LL.out.setCells (Nat.le_succ _) _ _
    clear hw3
    go_wp2
    refine bodyPost_ret (results_cell1 rfl _ _ _ (w.heap.size + 1) 0 rfl _ (load_cmd (c := (0, a1, (a2 : Int), (a3 : Int), (a4 : Int))) BF.out rfl)) rfl ⟨by rw [HR'.out], LF.out⟩
end Go.Proofs.Ytccdgpadjfjoeaa

namespace Go.Proofs.Ytccdgpadjfjoeaa
open Go.ChangeShapes Go.WideShapes Go.ChangeAt Go.RowKit
set_option linter.unusedVariables false
set_option linter.unusedSimpArgs false

/-! Known, Size. -/
set_option maxHeartbeats 1000000 in
theorem known_c (op : Int) (w : World) : Calls Try.prog 12 #[.int .i64 op] w fun e w' => e = .returned (.bool (knownB op)) ∧ Later w w' := by
  generalize hk : knownB op = kb
  have HK := hide hk
  clear hk
  go_enter Try.func12, Try.ntmps12
  go_wp2_with fail
  refine (form_c op _).mono ?_
  rintro e w1 ⟨v, rfl, hl, s, rfl, hr⟩
  obtain ⟨ad, cap, rfl⟩ := hr.shape
  rw [HK.out]
  generalize formN op = f at *
  obtain ⟨f1, f2, f3, f4, f5, L⟩ := f
  clear hr
  simp only
  generalize L.length = k
  have HL := hide hl
  clear hl HK
  go_wp2
  go_ret
  exact ⟨rfl, HL.out.alloc _⟩
def sizeN (op : Int) : Nat := if knownB op then (if op < 32 then 6 else if op < 128 then 10 else if op < 160 then 16 else 12) else 0
set_option maxHeartbeats 4000000 in
theorem size_c (op : Int) (w : World) : Calls Try.prog 10 #[.int .i64 op] w fun e w' => e = .returned (.int .i64 (sizeN op : Nat)) ∧ Later w w' := by
  rcases known_cases op with h | h
  · rcases h with rfl | rfl | rfl | rfl | rfl | rfl | rfl | rfl | rfl | rfl | rfl | rfl | rfl | rfl | rfl | rfl | rfl | rfl | rfl | rfl | rfl | rfl | rfl | rfl | rfl <;>
    · go_enter Try.func10, Try.ntmps10
      go_wp2_with fail
      refine (known_c _ _).mono ?_
      rintro e w1 ⟨rfl, hl⟩
      rw [show knownB _ = true from rfl]
      go_wp2
      go_ret
      exact ⟨rfl, hl⟩
  · have h1 := (known_other h).1
    have HS : Hid (sizeN op = 0) := by simp [Hid, sizeN, h1]
    clear h
    go_enter Try.func10, Try.ntmps10
    go_wp2_with fail
    refine (known_c _ _).mono ?_
    rintro e w1 ⟨rfl, hl⟩
    rw [h1]
    go_wp2
    go_ret
    exact ⟨by rw [HS.out]; rfl, hl⟩

/-! What the forms are. -/
theorem readP_lt (p : Nat) (l : List UInt8) : readP p l < 2 ^ (p / 128) := by
  unfold readP bitsI
  split
  · have := bitsN_lt (bigAt l (pfirst p) (pwidth p)) (pbit p) (pcount p)
    exact this
  · exact Nat.two_pow_pos _
theorem okF (op : Int) : OkF (formN op) ∧ ∀ r ∈ (formN op).2.2.2.2.2, OkR r := by
  have key : ∀ f : Frm, (f.1 < 65536 ∧ f.2.1 < 65536 ∧ f.2.2.1 < 65536 ∧ f.2.2.2.1 < 65536 ∧ f.2.2.2.2.1 ≤ 1000 ∧ f.2.1 / 128 ≤ 32 ∧ f.2.2.1 / 128 ≤ 32 ∧ f.2.2.2.1 / 128 ≤ 32) → OkF f := by
    rintro f ⟨h1, h2, h3, h4, h5, h6, h7, h8⟩
    have k : ∀ p l, p / 128 ≤ 32 → readP p l < 4294967296 := fun p l h => Nat.lt_of_lt_of_le (readP_lt p l) (by have := Nat.pow_le_pow_right (show 0 < 2 by omega) h; simpa using this)
    exact ⟨h1, h2, h3, h4, h5, fun l => k _ l h6, fun l => k _ l h7, fun l => k _ l h8⟩
  rcases known_cases op with h | h
  · rcases h with rfl | rfl | rfl | rfl | rfl | rfl | rfl | rfl | rfl | rfl | rfl | rfl | rfl | rfl | rfl | rfl | rfl | rfl | rfl | rfl | rfl | rfl | rfl | rfl | rfl <;>
    exact ⟨key _ (by decide), by simp [formN, OkR]⟩
  · rw [(known_other h).2.1]
    exact ⟨key _ (by decide), by simp⟩

/-! Parse. -/
abbrev czero : Cmd := (0, 0, 0, 0, 0)
def parseOp (op : Int) (l : List UInt8) : Cmd × Sns :=
  if knownB op = false then (czero, (5, 32, 0))
  else if l.length < sizeN op ∨ (l.getD (sizeN op - 1) 0).toNat ≠ 0 ∨ allowsB (formN op).2.2.2.2.2 l = false then (czero, (5, 36, 0))
  else if op = 18 ∧ (readC (formN op) l).2.2.2.1 ≠ 0 ∧ (readC (formN op) l).2.2.2.2 ≠ 1 then (czero, (5, 36, 0))
  else ((op, (readC (formN op) l).2), (0, 0, 0))
def parseI (l : List UInt8) : Cmd × Sns := if l.length = 0 then (czero, (5, 32, 0)) else parseOp ((l.getD 0 0).toNat : Nat) l
end Go.Proofs.Ytccdgpadjfjoeaa

namespace Go.Proofs.Ytccdgpadjfjoeaa
open Go.ChangeShapes Go.WideShapes Go.ChangeAt Go.RowKit
set_option linter.unusedVariables false
set_option linter.unusedSimpArgs false

/-! Parse. -/
theorem results_cc6 {fn : Func} {p q : Tmp} {ty ty' : TypeId} (h : fn.results = #[.cell p ty, .cell q ty']) (tmps : Array Value) (P : Program) (w : World) (b o b' o' : Nat) (hp : tmps.getD p undef = .pointer (some ⟨b, o, none⟩)) (hq : tmps.getD q undef = .pointer (some ⟨b', o', none⟩)) (v u : Value) (hl : (loadVar ty ⟨b, o, none⟩).run P w = .ok v w) (hl' : (loadVar ty' ⟨b', o', none⟩).run P w = .ok u w) :
    (results fn tmps).run P w = .ok (.tuple #[v, u]) w := by
  have ha : (asAddr (tmps.getD p undef)).run P w = .ok ⟨b, o, none⟩ w := by rw [hp]; rfl
  have hb : (asAddr (tmps.getD q undef)).run P w = .ok ⟨b', o', none⟩ w := by rw [hq]; rfl
  simp only [results, h]
  simp only [List.mapM_toArray, Sem.run_bind]
  simp [ha, hl, hb, hl', -Array.getD_eq_getD_getElem?]
theorem load_sns {w : World} {R : Nat} {s : Sns} (h : Box w R 28 (sc s)) : (loadVar 28 ⟨R, 0, none⟩).run Try.prog w = .ok (sval s) w :=
  run_loadVar_mid _ _ _ _ (sc s) _ h.range Try.underlying28 rfl Try.info_sense
theorem Box.apart {w : World} {g : Nat} {t : TypeId} {xs : List Value} (h : Box w g t xs) (k : Nat) (hk : g ≠ k) (vs : List Value) (o : Nat) : Box (w.setCells k o vs) g t xs := h.kept (heap_setCells_other w k g hk vs o)
theorem Try.zero_form : (Try.prog.info? 47).map (fun i => (i.zero, i.size)) = some (some (.agg #[.int .u16 0, .int .u16 0, .int .u16 0, .int .u16 0, .int .i64 0, .slice none 0 0]), 6) := by kernel_rfl
theorem Try.zero_cmd : (Try.prog.info? 26).map (fun i => (i.zero, i.size)) = some (some (.agg #[.int .i64 0, .int .u64 0, .int .i64 0, .int .i64 0, .int .i64 0]), 5) := by kernel_rfl
theorem size_pos {op : Int} (h : knownB op = true) : ∃ m, sizeN op = m + 1 ∧ m ≤ 15 := by
  unfold sizeN
  rw [h]
  simp only [if_true]
  split
  · exact ⟨5, rfl, by omega⟩
  split
  · exact ⟨9, rfl, by omega⟩
  split
  · exact ⟨15, rfl, by omega⟩
  · exact ⟨11, rfl, by omega⟩
set_option maxHeartbeats 4000000 in
theorem parse_c {v : Value} {l : List UInt8} (w : World) (h : Bs w v l) : Calls Try.prog 8 #[v] w fun e w' => e = .returned (.tuple #[cval (parseI l).1, sval (parseI l).2]) ∧ Later w w' := by
  have HB := hide h
  have hlm := h.1
  unfold maxLen at hlm
  obtain ⟨_, ad, cap, rfl, _, hd⟩ := h
  clear hd
  have BC := hide ((Box.new w 26 #[.int .i64 0, .int .u64 0, .int .i64 0, .int .i64 0, .int .i64 0]).alloc (.cells #[.int .i64 0, .int .i64 0, .int .i64 0] 28))
  have BS : Hid (Box ((w.alloc (.cells #[.int .i64 0, .int .u64 0, .int .i64 0, .int .i64 0, .int .i64 0] 26)).alloc (.cells #[.int .i64 0, .int .i64 0, .int .i64 0] 28)) (w.heap.size + 1) 28 (sc (0, 0, 0))) := Box.new' _ _ _ _ rfl _ (by simp)
  have LL := hide (((Later.refl w).alloc (.cells #[.int .i64 0, .int .u64 0, .int .i64 0, .int .i64 0, .int .i64 0] 26)).alloc (.cells #[.int .i64 0, .int .i64 0, .int .i64 0] 28))
  by_cases h0 : l.length = 0
  · have HP : Hid (parseI l = (czero, (5, 32, 0))) := by simp [Hid, parseI, h0]
    rw [h0] at HB hlm ⊢
    go_enter Try.func8, Try.ntmps8
    go_wp2_with fail
    generalize ((w.alloc (.cells #[.int .i64 0, .int .u64 0, .int .i64 0, .int .i64 0, .int .i64 0] 26)).alloc (.cells #[.int .i64 0, .int .i64 0, .int .i64 0] 28)) = w1 at *
    refine (con_Unknown _).mono ?_
    rintro e wu ⟨rfl, hl⟩
    replace BC := hide (BC.out.later hl)
    replace BS := hide (BS.out.later hl)
    replace LL := hide (LL.out.trans hl)
    clear hl
    go_wp2_with (refine wpList_storeU rfl 26 (.tmp 2) (.tmp 12) rfl w.heap.size 0 rfl (cc czero) rfl Try.info_cmd (cc_one _) _ _ BC.out (by simp) ?_)
    intro wA hA
    have BA : Hid (Box wA w.heap.size 26 (cc czero)) := by rw [hA.out]; exact BC.out.all _ rfl
    have SA : Hid (Box wA (w.heap.size + 1) 28 (sc (0, 0, 0))) := by rw [hA.out]; exact BS.out.apart _ (by omega) _ _
    have LA : Hid (Later w wA) := by rw [hA.out]; exact LL.out.setCells (Nat.le_refl _) _ _
    clear hA
    go_wp2_with (refine wpList_storeU rfl 28 (.tmp 3) (.tmp 13) rfl (w.heap.size + 1) 0 rfl (sc (5, 32, 0)) rfl Try.info_sense (sc_one _) _ _ SA.out (by simp) ?_)
    intro wB hB
    have BB : Hid (Box wB w.heap.size 26 (cc czero)) := by rw [hB.out]; exact BA.out.apart _ (by omega) _ _
    have SB : Hid (Box wB (w.heap.size + 1) 28 (sc (5, 32, 0))) := by rw [hB.out]; exact SA.out.all _ rfl
    have LB : Hid (Later w wB) := by rw [hB.out]; exact LA.out.setCells (Nat.le_succ _) _ _
    clear hB
    go_wp2
    refine bodyPost_ret (results_cc6 rfl _ _ _ w.heap.size 0 (w.heap.size + 1) 0 rfl rfl _ _ (load_cmd (c := czero) BB.out rfl) (load_sns (s := (5, 32, 0)) SB.out)) rfl ⟨by rw [HP.out], LB.out⟩
  obtain ⟨b, off, e, hr⟩ := HB.out.rw.lies? (by omega)
  subst e
  have c0 := hr 0 _ (bv_get_lt l 0 (by omega))
  rw [Nat.add_zero] at c0
  have HP0 : Hid (parseI l = parseOp (l[0].toNat : Nat) l) := by simp [Hid, parseI, h0, List.getD, List.getElem?_eq_getElem (show 0 < l.length by omega)]
  have hx0 : l[0].toNat < 256 := UInt8.toNat_lt _
  generalize l[0] = x at *
  obtain ⟨op, hop⟩ : ∃ op : Int, (x.toNat : Int) = op := ⟨_, rfl⟩
  have hw0 : IntKind.i64.wrap (x.toNat : Int) = op := by rw [IntKind.wrap_i64, ← hop]; omega
  rw [hop] at HP0
  clear hop hx0
  have hl0 : ((l.length : Int) == 0) = false := by rw [beq_eq_false_iff_ne]; omega
  have HR := hide hr
  clear hr
  obtain ⟨n, hn⟩ : ∃ n, n = l.length := ⟨_, rfl⟩
  rw [← hn] at HB hlm h0 hl0 ⊢
  have HN := hide hn
  clear hn
  go_enter Try.func8, Try.ntmps8
  have c0' := LL.out.cellOf c0
  go_wp2_with fail
  generalize ((w.alloc (.cells #[.int .i64 0, .int .u64 0, .int .i64 0, .int .i64 0, .int .i64 0] 26)).alloc (.cells #[.int .i64 0, .int .i64 0, .int .i64 0] 28)) = w1 at *
  clear c0 c0' hw0
  refine (form_c op _).mono ?_
  rintro e w2 ⟨fv, rfl, hl, hF⟩
  have okf := hide (okF op)
  replace BC := hide (BC.out.later hl)
  replace BS := hide (BS.out.later hl)
  replace LL := hide (LL.out.trans hl)
  have HF := hide hF
  obtain ⟨s, rfl, hr⟩ := hF
  obtain ⟨fa, fcap, rfl⟩ := hr.shape
  clear hl hr
  go_wp2_with (refine wpList_new rfl rfl 47 rfl 5 rfl (by simp) (.tmp 21) (by simp) rfl #[.int .u16 0, .int .u16 0, .int .u16 0, .int .u16 0, .int .i64 0, .slice none 0 0] (fc (formN op) (.slice fa (formN op).2.2.2.2.2.length fcap)) Try.zero_form rfl rfl (fc_one _ _ rfl) ?_)
  intro gF w3 hBF hl hg
  replace BC := hide (BC.out.later hl)
  replace BS := hide (BS.out.later hl)
  replace LL := hide (LL.out.trans hl)
  replace HF := hide (HF.out.later hl)
  have BF := hide hBF
  clear hl hg hBF
  cases hk : knownB op with
  | false =>
    have HP : Hid (parseI l = (czero, (5, 32, 0))) := by rw [Hid, HP0.out, parseOp, if_pos hk]
    go_wp2_with fail
    refine (con_Unknown _).mono ?_
    rintro e wu ⟨rfl, hl⟩
    replace BC := hide (BC.out.later hl)
    replace BS := hide (BS.out.later hl)
    replace LL := hide (LL.out.trans hl)
    clear hl
    go_wp2_with (refine wpList_storeU rfl 26 (.tmp 2) (.tmp 25) rfl w.heap.size 0 rfl (cc czero) rfl Try.info_cmd (cc_one _) _ _ BC.out (by simp) ?_)
    intro wA hA
    have BA : Hid (Box wA w.heap.size 26 (cc czero)) := by rw [hA.out]; exact BC.out.all _ rfl
    have SA : Hid (Box wA (w.heap.size + 1) 28 (sc (0, 0, 0))) := by rw [hA.out]; exact BS.out.apart _ (by omega) _ _
    have LA : Hid (Later w wA) := by rw [hA.out]; exact LL.out.setCells (Nat.le_refl _) _ _
    clear hA
    go_wp2_with (refine wpList_storeU rfl 28 (.tmp 3) (.tmp 26) rfl (w.heap.size + 1) 0 rfl (sc (5, 32, 0)) rfl Try.info_sense (sc_one _) _ _ SA.out (by simp) ?_)
    intro wB hB
    have BB : Hid (Box wB w.heap.size 26 (cc czero)) := by rw [hB.out]; exact BA.out.apart _ (by omega) _ _
    have SB : Hid (Box wB (w.heap.size + 1) 28 (sc (5, 32, 0))) := by rw [hB.out]; exact SA.out.all _ rfl
    have LB : Hid (Later w wB) := by rw [hB.out]; exact LA.out.setCells (Nat.le_succ _) _ _
    clear hB
    go_wp2
    refine bodyPost_ret (results_cc6 rfl _ _ _ w.heap.size 0 (w.heap.size + 1) 0 rfl rfl _ _ (load_cmd (c := czero) BB.out rfl) (load_sns (s := (5, 32, 0)) SB.out)) rfl ⟨by rw [HP.out], LB.out⟩
  | true =>
  obtain ⟨m, hm, hm15⟩ := size_pos hk
  have HM := hide hm
  have HK := hide hk
  clear hm hk
  go_wp2_with fail
  refine (size_c op _).mono ?_
  rintro e w4 ⟨rfl, hl⟩
  rw [HM.out]
  replace BC := hide (BC.out.later hl)
  replace BS := hide (BS.out.later hl)
  replace LL := hide (LL.out.trans hl)
  replace HF := hide (HF.out.later hl)
  replace BF := hide (BF.out.later hl)
  clear hl
  by_cases hA : n < m + 1
  · have hAb : decide ((n : Int) < (m : Int) + 1) = true := by simp; omega
    have HP : Hid (parseI l = (czero, (5, 36, 0))) := by
      rw [Hid, HP0.out, parseOp, if_neg (by rw [HK.out]; simp), if_pos (.inl (by rw [HM.out, ← HN.out]; exact hA))]
    go_wp2_with fail
    refine (con_Field _).mono ?_
    rintro e wu ⟨rfl, hl⟩
    replace BC := hide (BC.out.later hl)
    replace BS := hide (BS.out.later hl)
    replace LL := hide (LL.out.trans hl)
    clear hl
    go_wp2_with (refine wpList_storeU rfl 26 (.tmp 2) (.tmp 47) rfl w.heap.size 0 rfl (cc czero) rfl Try.info_cmd (cc_one _) _ _ BC.out (by simp) ?_)
    intro wA hA
    have BA : Hid (Box wA w.heap.size 26 (cc czero)) := by rw [hA.out]; exact BC.out.all _ rfl
    have SA : Hid (Box wA (w.heap.size + 1) 28 (sc (0, 0, 0))) := by rw [hA.out]; exact BS.out.apart _ (by omega) _ _
    have LA : Hid (Later w wA) := by rw [hA.out]; exact LL.out.setCells (Nat.le_refl _) _ _
    clear hA
    go_wp2_with (refine wpList_storeU rfl 28 (.tmp 3) (.tmp 48) rfl (w.heap.size + 1) 0 rfl (sc (5, 36, 0)) rfl Try.info_sense (sc_one _) _ _ SA.out (by simp) ?_)
    intro wB hB
    have BB : Hid (Box wB w.heap.size 26 (cc czero)) := by rw [hB.out]; exact BA.out.apart _ (by omega) _ _
    have SB : Hid (Box wB (w.heap.size + 1) 28 (sc (5, 36, 0))) := by rw [hB.out]; exact SA.out.all _ rfl
    have LB : Hid (Later w wB) := by rw [hB.out]; exact LA.out.setCells (Nat.le_succ _) _ _
    clear hB
    go_wp2
    refine bodyPost_ret (results_cc6 rfl _ _ _ w.heap.size 0 (w.heap.size + 1) 0 rfl rfl _ _ (load_cmd (c := czero) BB.out rfl) (load_sns (s := (5, 36, 0)) SB.out)) rfl ⟨by rw [HP.out], LB.out⟩
  have hAb : decide ((n : Int) < (m : Int) + 1) = false := by simp; omega
  have hmn : m < n := by omega
  have hml : m < l.length := by have := HN.out; omega
  have cm := LL.out.cellOf (HR.out m _ (bv_get_lt l m hml))
  have HZ : Hid (l.getD m 0 = l[m]) := by simp [Hid, List.getD, List.getElem?_eq_getElem hml]
  generalize l[m] = z at *
  by_cases hz : z.toNat = 0
  case neg =>
    have hzb : ((z.toNat : Int) != 0) = true := by rw [bne_iff_ne]; omega
    have HP : Hid (parseI l = (czero, (5, 36, 0))) := by
      rw [Hid, HP0.out, parseOp, if_neg (by rw [HK.out]; simp), if_pos (.inr (.inl (by rw [HM.out]; simp only [Nat.add_sub_cancel]; rw [HZ.out]; exact hz)))]
    clear hz
    go_wp2_with fail
    refine (con_Field _).mono ?_
    rintro e wu ⟨rfl, hl⟩
    replace BC := hide (BC.out.later hl)
    replace BS := hide (BS.out.later hl)
    replace LL := hide (LL.out.trans hl)
    clear hl
    go_wp2_with (refine wpList_storeU rfl 26 (.tmp 2) (.tmp 47) rfl w.heap.size 0 rfl (cc czero) rfl Try.info_cmd (cc_one _) _ _ BC.out (by simp) ?_)
    intro wA hA
    have BA : Hid (Box wA w.heap.size 26 (cc czero)) := by rw [hA.out]; exact BC.out.all _ rfl
    have SA : Hid (Box wA (w.heap.size + 1) 28 (sc (0, 0, 0))) := by rw [hA.out]; exact BS.out.apart _ (by omega) _ _
    have LA : Hid (Later w wA) := by rw [hA.out]; exact LL.out.setCells (Nat.le_refl _) _ _
    clear hA
    go_wp2_with (refine wpList_storeU rfl 28 (.tmp 3) (.tmp 48) rfl (w.heap.size + 1) 0 rfl (sc (5, 36, 0)) rfl Try.info_sense (sc_one _) _ _ SA.out (by simp) ?_)
    intro wB hB
    have BB : Hid (Box wB w.heap.size 26 (cc czero)) := by rw [hB.out]; exact BA.out.apart _ (by omega) _ _
    have SB : Hid (Box wB (w.heap.size + 1) 28 (sc (5, 36, 0))) := by rw [hB.out]; exact SA.out.all _ rfl
    have LB : Hid (Later w wB) := by rw [hB.out]; exact LA.out.setCells (Nat.le_succ _) _ _
    clear hB
    go_wp2
    refine bodyPost_ret (results_cc6 rfl _ _ _ w.heap.size 0 (w.heap.size + 1) 0 rfl rfl _ _ (load_cmd (c := czero) BB.out rfl) (load_sns (s := (5, 36, 0)) SB.out)) rfl ⟨by rw [HP.out], LB.out⟩
  have hzb : ((z.toNat : Int) != 0) = false := by simp [hz]
  have HZ0 : Hid ((l.getD m 0).toNat = 0) := by rw [Hid, HZ.out]; exact hz
  clear hz HZ
  have y0 := BF.out.cell 0
  have y1 := BF.out.cell 1
  have y2 := BF.out.cell 2
  have y3 := BF.out.cell 3
  have y4 := BF.out.cell 4
  have y5 := BF.out.cell 5
  go_wp2_with fail
  refine (allows_c (formN op) _ HF.out (HB.out.later LL.out) okf.out.2).mono ?_
  rintro e w5 ⟨rfl, hl⟩
  replace BC := hide (BC.out.later hl)
  replace BS := hide (BS.out.later hl)
  replace LL := hide (LL.out.trans hl)
  replace HF := hide (HF.out.later hl)
  replace BF := hide (BF.out.later hl)
  clear hl y0 y1 y2 y3 y4 y5 cm hzb
  cases hal : allowsB (formN op).2.2.2.2.2 l with
  | false =>
    have HP : Hid (parseI l = (czero, (5, 36, 0))) := by
      rw [Hid, HP0.out, parseOp, if_neg (by rw [HK.out]; simp), if_pos (.inr (.inr hal))]
    clear hal
    go_wp2_with fail
    refine (con_Field _).mono ?_
    rintro e wu ⟨rfl, hl⟩
    replace BC := hide (BC.out.later hl)
    replace BS := hide (BS.out.later hl)
    replace LL := hide (LL.out.trans hl)
    clear hl
    go_wp2_with (refine wpList_storeU rfl 26 (.tmp 2) (.tmp 47) rfl w.heap.size 0 rfl (cc czero) rfl Try.info_cmd (cc_one _) _ _ BC.out (by simp) ?_)
    intro wA hA
    have BA : Hid (Box wA w.heap.size 26 (cc czero)) := by rw [hA.out]; exact BC.out.all _ rfl
    have SA : Hid (Box wA (w.heap.size + 1) 28 (sc (0, 0, 0))) := by rw [hA.out]; exact BS.out.apart _ (by omega) _ _
    have LA : Hid (Later w wA) := by rw [hA.out]; exact LL.out.setCells (Nat.le_refl _) _ _
    clear hA
    go_wp2_with (refine wpList_storeU rfl 28 (.tmp 3) (.tmp 48) rfl (w.heap.size + 1) 0 rfl (sc (5, 36, 0)) rfl Try.info_sense (sc_one _) _ _ SA.out (by simp) ?_)
    intro wB hB
    have BB : Hid (Box wB w.heap.size 26 (cc czero)) := by rw [hB.out]; exact BA.out.apart _ (by omega) _ _
    have SB : Hid (Box wB (w.heap.size + 1) 28 (sc (5, 36, 0))) := by rw [hB.out]; exact SA.out.all _ rfl
    have LB : Hid (Later w wB) := by rw [hB.out]; exact LA.out.setCells (Nat.le_succ _) _ _
    clear hB
    go_wp2
    refine bodyPost_ret (results_cc6 rfl _ _ _ w.heap.size 0 (w.heap.size + 1) 0 rfl rfl _ _ (load_cmd (c := czero) BB.out rfl) (load_sns (s := (5, 36, 0)) SB.out)) rfl ⟨by rw [HP.out], LB.out⟩
  | true =>
  have HQ : Hid (parseI l = if op = 18 ∧ (readC (formN op) l).2.2.2.1 ≠ 0 ∧ (readC (formN op) l).2.2.2.2 ≠ 1 then (czero, (5, 36, 0)) else ((op, (readC (formN op) l).2), (0, 0, 0))) := by
    have h1 : ¬ (l.length < sizeN op ∨ (l.getD (sizeN op - 1) 0).toNat ≠ 0 ∨ allowsB (formN op).2.2.2.2.2 l = false) := by
      rw [HM.out, hal]
      simp only [Nat.add_sub_cancel]
      rw [HZ0.out]
      simp
      omega
    rw [Hid, HP0.out, parseOp, if_neg (by rw [HK.out]; simp), if_neg h1]
  clear hal
  have y0 := BF.out.cell 0
  have y1 := BF.out.cell 1
  have y2 := BF.out.cell 2
  have y3 := BF.out.cell 3
  have y4 := BF.out.cell 4
  have y5 := BF.out.cell 5
  go_wp2_with fail
  refine (fread_c (formN op) _ HF.out (HB.out.later LL.out) okf.out.1).mono ?_
  rintro e w6 ⟨rfl, hl⟩
  replace BC := hide (BC.out.later hl)
  replace BS := hide (BS.out.later hl)
  replace LL := hide (LL.out.trans hl)
  clear hl y0 y1 y2 y3 y4 y5 BF HF
  generalize readC (formN op) l = C at *
  obtain ⟨C0, C1, C2, C3, C4⟩ := C
  simp only at HQ
  go_wp2_with (refine wpList_new rfl rfl 26 rfl 8 rfl (by simp) (.tmp 51) (by simp) rfl #[.int .i64 0, .int .u64 0, .int .i64 0, .int .i64 0, .int .i64 0] (cc (C0, C1, C2, C3, C4)) Try.zero_cmd rfl rfl (cc_one _) ?_)
  intro gC w7 hBV hl hg
  have hgC : Hid (w.heap.size ≤ gC ∧ w.heap.size + 1 ≠ gC ∧ w.heap.size ≠ gC) := by
    have h1 := BC.out.lt
    have h2 := BS.out.lt
    have h3 := hg.out.1
    refine ⟨?_, ?_, ?_⟩ <;> omega
  replace BC := hide (BC.out.later hl)
  replace BS := hide (BS.out.later hl)
  replace LL := hide (LL.out.trans hl)
  clear hl hg
  have d0 := hBV.cell 0
  have f0 := hBV.frozen 0
  have BV : Hid (Box (w7.setCell ⟨gC, 0, none⟩ (.int .i64 op)) gC 26 (cc (op, C1, C2, C3, C4))) := hBV.set 0 _
  replace BC : Hid (Box (w7.setCell ⟨gC, 0, none⟩ (.int .i64 op)) w.heap.size _ _) := BC.out.other _ _ hgC.out.2.2
  replace BS : Hid (Box (w7.setCell ⟨gC, 0, none⟩ (.int .i64 op)) (w.heap.size + 1) _ _) := BS.out.other _ _ hgC.out.2.1
  replace LL : Hid (Later w (w7.setCell ⟨gC, 0, none⟩ (.int .i64 op))) := LL.out.setCell hgC.out.1 _
  have e0 := BV.out.cell 0
  have e1 := BV.out.cell 1
  have e2 := BV.out.cell 2
  have e3 := BV.out.cell 3
  have e4 := BV.out.cell 4
  by_cases h18 : op = 18
  · have hb1 : (op == 18) = true := by simp [h18]
    by_cases h3 : C3 = 0
    · have hb2 : (C3 != 0) = false := by simp [h3]
      have HP : Hid (parseI l = ((op, C1, C2, C3, C4), (0, 0, 0))) := by rw [Hid, HQ.out, if_neg (by simp [h3])]
      clear h3 h18 hBV
      go_wp2_with (refine wpList_storeU rfl 26 (.tmp 2) (.tmp 68) rfl w.heap.size 0 rfl (cc (op, C1, C2, C3, C4)) rfl Try.info_cmd (cc_one _) _ _ BC.out (by simp) ?_)
      intro wA hA
      have BA : Hid (Box wA w.heap.size 26 (cc (op, C1, C2, C3, C4))) := by rw [hA.out]; exact BC.out.all _ rfl
      have SA : Hid (Box wA (w.heap.size + 1) 28 (sc (0, 0, 0))) := by rw [hA.out]; exact BS.out.apart _ (by omega) _ _
      have LA : Hid (Later w wA) := by rw [hA.out]; exact LL.out.setCells (Nat.le_refl _) _ _
      clear hA
      go_wp2_with (refine wpList_storeU rfl 28 (.tmp 3) (.tmp 69) rfl (w.heap.size + 1) 0 rfl (sc (0, 0, 0)) rfl Try.info_sense (sc_one _) _ _ SA.out (by simp) ?_)
      intro wB hB
      have BB : Hid (Box wB w.heap.size 26 (cc (op, C1, C2, C3, C4))) := by rw [hB.out]; exact BA.out.apart _ (by omega) _ _
      have SB : Hid (Box wB (w.heap.size + 1) 28 (sc (0, 0, 0))) := by rw [hB.out]; exact SA.out.all _ rfl
      have LB : Hid (Later w wB) := by rw [hB.out]; exact LA.out.setCells (Nat.le_succ _) _ _
      clear hB
      go_wp2
      refine bodyPost_ret (results_cc6 rfl _ _ _ w.heap.size 0 (w.heap.size + 1) 0 rfl rfl _ _ (load_cmd (c := (op, C1, C2, C3, C4)) BB.out rfl) (load_sns (s := (0, 0, 0)) SB.out)) rfl ⟨by rw [HP.out], LB.out⟩
    · have hb2 : (C3 != 0) = true := by simp [h3]
      by_cases h4 : C4 = 1
      · have hb3 : (C4 != 1) = false := by simp [h4]
        have HP : Hid (parseI l = ((op, C1, C2, C3, C4), (0, 0, 0))) := by rw [Hid, HQ.out, if_neg (by simp [h4])]
        clear h3 h4 h18 hBV
        go_wp2_with (refine wpList_storeU rfl 26 (.tmp 2) (.tmp 68) rfl w.heap.size 0 rfl (cc (op, C1, C2, C3, C4)) rfl Try.info_cmd (cc_one _) _ _ BC.out (by simp) ?_)
        intro wA hA
        have BA : Hid (Box wA w.heap.size 26 (cc (op, C1, C2, C3, C4))) := by rw [hA.out]; exact BC.out.all _ rfl
        have SA : Hid (Box wA (w.heap.size + 1) 28 (sc (0, 0, 0))) := by rw [hA.out]; exact BS.out.apart _ (by omega) _ _
        have LA : Hid (Later w wA) := by rw [hA.out]; exact LL.out.setCells (Nat.le_refl _) _ _
        clear hA
        go_wp2_with (refine wpList_storeU rfl 28 (.tmp 3) (.tmp 69) rfl (w.heap.size + 1) 0 rfl (sc (0, 0, 0)) rfl Try.info_sense (sc_one _) _ _ SA.out (by simp) ?_)
        intro wB hB
        have BB : Hid (Box wB w.heap.size 26 (cc (op, C1, C2, C3, C4))) := by rw [hB.out]; exact BA.out.apart _ (by omega) _ _
        have SB : Hid (Box wB (w.heap.size + 1) 28 (sc (0, 0, 0))) := by rw [hB.out]; exact SA.out.all _ rfl
        have LB : Hid (Later w wB) := by rw [hB.out]; exact LA.out.setCells (Nat.le_succ _) _ _
        clear hB
        go_wp2
        refine bodyPost_ret (results_cc6 rfl _ _ _ w.heap.size 0 (w.heap.size + 1) 0 rfl rfl _ _ (load_cmd (c := (op, C1, C2, C3, C4)) BB.out rfl) (load_sns (s := (0, 0, 0)) SB.out)) rfl ⟨by rw [HP.out], LB.out⟩
      · have hb3 : (C4 != 1) = true := by simp [h4]
        have HP : Hid (parseI l = (czero, (5, 36, 0))) := by rw [Hid, HQ.out, if_pos ⟨h18, h3, h4⟩]
        clear h3 h4 h18 hBV
        go_wp2_with fail
        refine (con_Field _).mono ?_
        rintro e wu ⟨rfl, hl⟩
        replace BC := hide (BC.out.later hl)
        replace BS := hide (BS.out.later hl)
        replace LL := hide (LL.out.trans hl)
        clear hl
        go_wp2_with (refine wpList_storeU rfl 26 (.tmp 2) (.tmp 66) rfl w.heap.size 0 rfl (cc czero) rfl Try.info_cmd (cc_one _) _ _ BC.out (by simp) ?_)
        intro wA hA
        have BA : Hid (Box wA w.heap.size 26 (cc czero)) := by rw [hA.out]; exact BC.out.all _ rfl
        have SA : Hid (Box wA (w.heap.size + 1) 28 (sc (0, 0, 0))) := by rw [hA.out]; exact BS.out.apart _ (by omega) _ _
        have LA : Hid (Later w wA) := by rw [hA.out]; exact LL.out.setCells (Nat.le_refl _) _ _
        clear hA
        go_wp2_with (refine wpList_storeU rfl 28 (.tmp 3) (.tmp 67) rfl (w.heap.size + 1) 0 rfl (sc (5, 36, 0)) rfl Try.info_sense (sc_one _) _ _ SA.out (by simp) ?_)
        intro wB hB
        have BB : Hid (Box wB w.heap.size 26 (cc czero)) := by rw [hB.out]; exact BA.out.apart _ (by omega) _ _
        have SB : Hid (Box wB (w.heap.size + 1) 28 (sc (5, 36, 0))) := by rw [hB.out]; exact SA.out.all _ rfl
        have LB : Hid (Later w wB) := by rw [hB.out]; exact LA.out.setCells (Nat.le_succ _) _ _
        clear hB
        go_wp2
        refine bodyPost_ret (results_cc6 rfl _ _ _ w.heap.size 0 (w.heap.size + 1) 0 rfl rfl _ _ (load_cmd (c := czero) BB.out rfl) (load_sns (s := (5, 36, 0)) SB.out)) rfl ⟨by rw [HP.out], LB.out⟩
  · have hb1 : (op == 18) = false := by simp [h18]
    have HP : Hid (parseI l = ((op, C1, C2, C3, C4), (0, 0, 0))) := by rw [Hid, HQ.out, if_neg (by simp [h18])]
    clear h18 hBV
    go_wp2_with (refine wpList_storeU rfl 26 (.tmp 2) (.tmp 68) rfl w.heap.size 0 rfl (cc (op, C1, C2, C3, C4)) rfl Try.info_cmd (cc_one _) _ _ BC.out (by simp) ?_)
    intro wA hA
    have BA : Hid (Box wA w.heap.size 26 (cc (op, C1, C2, C3, C4))) := by rw [hA.out]; exact BC.out.all _ rfl
    have SA : Hid (Box wA (w.heap.size + 1) 28 (sc (0, 0, 0))) := by rw [hA.out]; exact BS.out.apart _ (by omega) _ _
    have LA : Hid (Later w wA) := by rw [hA.out]; exact LL.out.setCells (Nat.le_refl _) _ _
    clear hA
    go_wp2_with (refine wpList_storeU rfl 28 (.tmp 3) (.tmp 69) rfl (w.heap.size + 1) 0 rfl (sc (0, 0, 0)) rfl Try.info_sense (sc_one _) _ _ SA.out (by simp) ?_)
    intro wB hB
    have BB : Hid (Box wB w.heap.size 26 (cc (op, C1, C2, C3, C4))) := by rw [hB.out]; exact BA.out.apart _ (by omega) _ _
    have SB : Hid (Box wB (w.heap.size + 1) 28 (sc (0, 0, 0))) := by rw [hB.out]; exact SA.out.all _ rfl
    have LB : Hid (Later w wB) := by rw [hB.out]; exact LA.out.setCells (Nat.le_succ _) _ _
    clear hB
    go_wp2
    refine bodyPost_ret (results_cc6 rfl _ _ _ w.heap.size 0 (w.heap.size + 1) 0 rfl rfl _ _ (load_cmd (c := (op, C1, C2, C3, C4)) BB.out rfl) (load_sns (s := (0, 0, 0)) SB.out)) rfl ⟨by rw [HP.out], LB.out⟩
end Go.Proofs.Ytccdgpadjfjoeaa
