import Derived.Deep.Cut
import Derived.Test.YtbcikndebaeahaaMBA
import Derived.Test.YtbcikndebaeahaaMAP
import Derived.Test.YtbcikndebaeahaaWR8d
import Derived.Test.YtbcikndebaeahaaMAN
import Derived.Test.YtbcikndebaeahaaMAT
import Derived.Test.YtbcikndebaeahaaMAY
import Derived.Test.YtbcikndebaeahaaMAM
namespace Go.Proofs.Ytbcikndebaeahaa
open Go.ChangeShapes Go.WideShapes Go.ChangeAt Go.RowKit
set_option linter.unusedVariables false
set_option maxRecDepth 4000
set_option linter.unusedSimpArgs false
/-! The landed job: Take. -/
theorem off_own {g : Nat} {v : Value} (h : v.ownBlock ≠ some g) : OffS g v := by
  cases v with
  | slice a n c =>
    cases a with
    | none => exact trivial
    | some a => exact .inr (fun e => h (by simp [Value.ownBlock, e]))
  | _ => exact trivial
section
variable {n : Nat} {F : List UInt8} {D : List Drt} {p r cc : Bool} {c : Cmd} {len took : Int} {R : List UInt8} {S : Sns} {B : List UInt8}
theorem tk_took (hr : rightJ c len took R.length = true) : (tkR n F D p r cc c len took R S B).2.1 = took + tkN len took B.length := by
  cases hm : modeOp c.1 with
  | true => rw [tkR_mode hr hm]
  | false => rw [tkR_blks hr (by rw [hm]; decide) rfl]
theorem tk_cut (hr : rightJ c len took R.length = true) (N : Nat) (hN : N = tkN len took B.length) : tkR n F D p r cc c len took R S (B.take N) = tkR n F D p r cc c len took R S B := by
  have h1 := tkN_le len took B.length
  have hl : (B.take N).length = N := by rw [List.length_take]; omega
  have h2 : tkN len took (B.take N).length = N := by
    rw [hl]
    unfold tkN at hN ⊢
    split at hN <;> split <;> omega
  have h3 : (B.take N).take N = B.take N := by rw [List.take_take, Nat.min_self]
  cases hm : modeOp c.1 with
  | true => rw [tkR_mode hr hm, tkR_mode hr hm, h2, ← hN, h3]
  | false => rw [tkR_blks (B := B.take N) hr (by rw [hm]; decide) (by rw [h2, h3]), tkR_blks (B := B) hr (by rw [hm]; decide) (by rw [← hN]), h2, ← hN]
end
theorem Try.zero_worker : (Try.prog.info? 65).map (fun i => (i.zero, i.size)) = some (some (.agg (wc none 0 0 none 0 0 false false false false none 0 0 (0, 0, 0) (0, 0, 0, 0, 0) 0 0 none 0 0 (0, 0, 0)).toArray), 21) := by kernel_rfl
/-- 'x := v', v a worker -/
theorem wpList_newW10 {w : World} {ops : Array Oper} {rest : List Oper} {o1 o2 : Oper} {a : Act} {Q : Exit → Act → World → Prop} (hg1 : o1.guard = none) (hg2 : o2.guard = none) (h1 : o1.op = .alloc 65) (d : Tmp) (hd : o1.dst = some d) (hd' : d < a.tmps.size) (y : Operand) (hy' : y ≠ .tmp d) (h2 : o2.op = .store 65 (.tmp d) y)
    (ab : Option Addr) (n cb : Nat) (aD : Option Addr) (k cD : Nat) (p r l cc : Bool) (am : Option Addr) (m cm : Nat) (s : Sns) (c : Cmd) (len took : Int) (ar : Option Addr) (kr cr : Nat) (S : Sns) (hy : a.eval y = .agg (wc ab n cb aD k cD p r l cc am m cm s c len took ar kr cr S).toArray)
    (h : ∀ (g : Nat) (w' : World), Box w' g 65 (wc ab n cb aD k cD p r l cc am m cm s c len took ar kr cr S) → Later w w' → Hid (g = w.heap.size ∧ w' = w.alloc (.cells (wc ab n cb aD k cD p r l cc am m cm s c len took ar kr cr S).toArray 65)) → wpList Try.prog ops Q rest ((a.put (some d) (.pointer (some ⟨g, 0, none⟩))).put o2.dst undef) w') : wpList Try.prog ops Q (o1 :: o2 :: rest) a w :=
  wpList_new hg1 hg2 65 h1 d hd hd' y hy' h2 (wc none 0 0 none 0 0 false false false false none 0 0 (0, 0, 0) (0, 0, 0, 0, 0) 0 0 none 0 0 (0, 0, 0)).toArray (wc ab n cb aD k cD p r l cc am m cm s c len took ar kr cr S) Try.zero_worker rfl hy (wc_one _ _ _ _ _ _ _ _ _ _ _ _ _ _ _ _ _ _ _ _ _) h
set_option maxRecDepth 20000 in
set_option maxHeartbeats 8000000 in
theorem itake10 : ITake10 := by
  intro u v b n F D p r l cc am m cm s M c len took R S B w hU hA hJ hB hc hS h1 h2 hn hD hm1 hR hBl
  have HJ := hide hJ
  obtain ⟨ab, cb, aD, k, cD, rfl, hm⟩ := hU
  obtain ⟨ar, cr, rfl, hr⟩ := hJ
  have HM0 := hide hm
  have HA0 := hide hA
  have HR0 := hide hr
  have HB0 := hide hB
  have HC := hide hc
  have HS := hide hS
  have HI := hide (And.intro h1 h2)
  have HNn := hide (And.intro hn (And.intro hD hm1))
  have HLn := hide (And.intro hR hBl)
  have HOk : Hid (Ok D) := by obtain ⟨_, _, _, _, _, ho⟩ := hm; exact ho
  have HMl : Hid (m = M.length) := by
    obtain ⟨a', c', e'⟩ := hA.1.shape
    simp at e'
    exact e'.2.1
  have hB2 := hB
  obtain ⟨hbl, bb, cb', rfl, hcb, hbr⟩ := hB2
  obtain ⟨kr, hkr⟩ : ∃ kr, kr = R.length := ⟨_, rfl⟩
  obtain ⟨kb, hkb⟩ : ∃ kb, kb = B.length := ⟨_, rfl⟩
  rw [← hkr] at HR0 HJ ⊢
  rw [← hkb] at HB0 hcb ⊢
  have HKr := hide hkr
  have HKb := hide hkb
  have hkb2 : kb ≤ 100000 := by rw [hkb]; exact hBl
  have hcb2 : kb ≤ cb' := by omega
  clear hm hA hr hB hc hS h1 h2 hn hD hm1 hR hBl hkr hkb hbl hbr hcb
  have BU := hide ((((Box.new w 32 (uc ab n cb aD k cD p r l cc am m cm s).toArray).alloc (.cells (jc c len took ar kr cr S).toArray 38)).alloc (.cells (uc none 0 0 none 0 0 false false false false none 0 0 (0, 0, 0)).toArray 32)).alloc (.cells (jc (0, 0, 0, 0, 0) 0 0 none 0 0 (0, 0, 0)).toArray 38))
  have BJ : Hid (Box _ (w.heap.size + 1) 38 (jc c len took ar kr cr S)) := ((Box.new' (w.alloc (.cells (uc ab n cb aD k cD p r l cc am m cm s).toArray 32)) 38 (jc c len took ar kr cr S).toArray _ rfl _ (by simp)).alloc (.cells (uc none 0 0 none 0 0 false false false false none 0 0 (0, 0, 0)).toArray 32)).alloc (.cells (jc (0, 0, 0, 0, 0) 0 0 none 0 0 (0, 0, 0)).toArray 38)
  have BU3 : Hid (Box _ (w.heap.size + 1 + 1) 32 (uc none 0 0 none 0 0 false false false false none 0 0 (0, 0, 0))) := (Box.new' ((w.alloc (.cells (uc ab n cb aD k cD p r l cc am m cm s).toArray 32)).alloc (.cells (jc c len took ar kr cr S).toArray 38)) 32 (uc none 0 0 none 0 0 false false false false none 0 0 (0, 0, 0)).toArray _ rfl _ (by simp)).alloc (.cells (jc (0, 0, 0, 0, 0) 0 0 none 0 0 (0, 0, 0)).toArray 38)
  have BJ4 : Hid (Box _ (w.heap.size + 1 + 1 + 1) 38 (jc (0, 0, 0, 0, 0) 0 0 none 0 0 (0, 0, 0))) := Box.new' (((w.alloc (.cells (uc ab n cb aD k cD p r l cc am m cm s).toArray 32)).alloc (.cells (jc c len took ar kr cr S).toArray 38)).alloc (.cells (uc none 0 0 none 0 0 false false false false none 0 0 (0, 0, 0)).toArray 32)) 38 (jc (0, 0, 0, 0, 0) 0 0 none 0 0 (0, 0, 0)).toArray _ rfl _ (by simp)
  have L1 := hide (((((Later.refl w).alloc (.cells (uc ab n cb aD k cD p r l cc am m cm s).toArray 32)).alloc (.cells (jc c len took ar kr cr S).toArray 38)).alloc (.cells (uc none 0 0 none 0 0 false false false false none 0 0 (0, 0, 0)).toArray 32)).alloc (.cells (jc (0, 0, 0, 0, 0) 0 0 none 0 0 (0, 0, 0)).toArray 38))
  have x_0 := BU.out.cell 0
  have x_1 := BU.out.cell 1
  have x_2 := BU.out.cell 2
  have x_3 := BU.out.cell 3
  have x_4 := BU.out.cell 4
  have x_5 := BU.out.cell 5
  have x_6 := BU.out.cell 6
  have x_7 := BU.out.cell 7
  have x_8 := BU.out.cell 8
  have x_9 := BU.out.cell 9
  have y_0 := BJ.out.cell 0
  have y_1 := BJ.out.cell 1
  have y_2 := BJ.out.cell 2
  have y_3 := BJ.out.cell 3
  have y_4 := BJ.out.cell 4
  have y_5 := BJ.out.cell 5
  have y_6 := BJ.out.cell 6
  have y_7 := BJ.out.cell 7
  have y_8 := BJ.out.cell 8
  have y_9 := BJ.out.cell 9
  have y_10 := BJ.out.cell 10
  go_enter Try.func10, Try.ntmps10
  go_wp2_with fail
  clear x_0 x_1 x_2 x_3 x_4 x_5 x_6 x_7 x_8 x_9
  clear y_0 y_1 y_2 y_3 y_4 y_5 y_6 y_7 y_8 y_9 y_10
  generalize (((w.alloc (.cells (uc ab n cb aD k cD p r l cc am m cm s).toArray 32)).alloc (.cells (jc c len took ar kr cr S).toArray 38)).alloc (.cells (uc none 0 0 none 0 0 false false false false none 0 0 (0, 0, 0)).toArray 32)).alloc (.cells (jc (0, 0, 0, 0, 0) 0 0 none 0 0 (0, 0, 0)).toArray 38) = w1 at *
  obtain ⟨g7, hg7⟩ : ∃ g7, g7 = w.heap.size + 1 + 1 + 1 := ⟨_, rfl⟩
  obtain ⟨g6, hg6⟩ : ∃ g6, g6 = w.heap.size + 1 + 1 := ⟨_, rfl⟩
  obtain ⟨gj, hgj⟩ : ∃ gj, gj = w.heap.size + 1 := ⟨_, rfl⟩
  rw [← hg7] at BJ4 ⊢
  rw [← hg6] at BU3 ⊢
  rw [← hgj] at BJ ⊢
  have HG0 : Hid (w.heap.size ≤ g6 ∧ w.heap.size ≤ g7 ∧ g6 ≠ g7 ∧ g6 < w1.heap.size ∧ g7 < w1.heap.size) := ⟨by omega, by omega, by omega, BU3.out.lt, BJ4.out.lt⟩
  clear hg7 hg6 hgj BU
  refine (nworker_c (M := M) (F := F) (D := D) (R := R) w1 (HM0.out.later L1.out) (HA0.out.later L1.out) (HR0.out.later L1.out) (by have := HNn.out; omega) (by have := HNn.out; omega) (by have := HNn.out; omega) HLn.out.1).mono ?_
  rintro e w2 ⟨xb, xcb, xd, xcD, am', cm', xr, xcr, rfl, hl, ho, hnn⟩
  have HN := hide hnn
  have HO := hide ho
  have L2 := hide hl
  clear hl ho hnn
  go_wp2_with (refine wpList_newW10 rfl rfl rfl 8 rfl (by simp) (.tmp 13) (by simp) rfl xb n xcb xd k xcD p r l cc am' m cm' s c len took xr kr xcr S rfl ?_)
  intro g8 w3 hB8 hl hg
  have HG8 : Hid (w1.heap.size ≤ g8) := by rw [Hid, hg.out.1]; exact L2.out.size
  have HW : Hid (WkA w1 g8 xb n xcb xd k xcD p r l cc am' m cm' s c len took xr kr xcr S F D M R w3) := by
    obtain ⟨o1, o2, o3, o4⟩ := HO.out
    refine ⟨L2.out.trans hl, hB8, ⟨_, _, rfl, (Rw.of_owns o1).later hl, ?_, HOk.out⟩, owns_later o3 hl, owns_later o4 hl, fun b hb => ⟨off_own (own_ne_own o4 o1 (by decide) b hb), off_own (own_ne_own o4 o2 (by decide) b hb)⟩⟩
    have hkD : k = D.length := by
      obtain ⟨vb, vd, e, _, hd, _⟩ := HM0.out
      simp at e
      obtain ⟨rfl, rfl⟩ := e
      obtain ⟨_, _, a', c', e', _⟩ := hd
      simp at e'
      exact e'.2.1
    have h := (Rw.of_owns o2).later hl
    rw [hkD] at h ⊢
    exact h
  have HGs : Hid (w.heap.size ≤ g6 ∧ w.heap.size ≤ g7 ∧ g6 ≠ g7 ∧ g8 ≠ g6 ∧ g8 ≠ g7) := by
    have q1 := HG0.out
    have q2 := HG8.out
    exact ⟨q1.1, q1.2.1, q1.2.2.1, by omega, by omega⟩
  clear hB8 hl hg HO L2 HG0
  have y_0 := (BJ.out.later HW.out.1).cell 0
  have y_1 := (BJ.out.later HW.out.1).cell 1
  have y_2 := (BJ.out.later HW.out.1).cell 2
  have y_3 := (BJ.out.later HW.out.1).cell 3
  have y_4 := (BJ.out.later HW.out.1).cell 4
  have y_5 := (BJ.out.later HW.out.1).cell 5
  have y_6 := (BJ.out.later HW.out.1).cell 6
  have y_7 := (BJ.out.later HW.out.1).cell 7
  have y_8 := (BJ.out.later HW.out.1).cell 8
  have y_9 := (BJ.out.later HW.out.1).cell 9
  have y_10 := (BJ.out.later HW.out.1).cell 10
  go_wp2_with fail
  clear y_0 y_1 y_2 y_3 y_4 y_5 y_6 y_7 y_8 y_9 y_10
  refine (iright10 _ c len took R S w3 (HJ.out.later (L1.out.trans HW.out.1)) HC.out HI.out.1 HI.out.2).mono ?_
  rintro e w4 ⟨rfl, hl⟩
  replace HW := hide (HW.out.later hl)
  clear hl
  cases hrj : rightJ c len took R.length with
  | false =>
    have HT := hide (tkR_wrong (n := n) (F := F) (D := D) (p := p) (r := r) (cc := cc) (S := S) (B := B) hrj)
    clear hrj
    have HKx := hide HKr.out
    go_wp2_with fail
    refine wp_region_held (fun W => Box W g8 65 (wc xb n xcb xd k xcD p r l cc am' m cm' s c len took xr kr xcr S)) (fun a b hl h => h.later hl) HW.out.2.1 [(0, false), (1, false), (2, false), (3, false), (4, true), (5, true)] (by kernel_rfl) (by kernel_rfl) (by kernel_rfl) (by kernel_rfl) ?_
    haveI : Nonempty (Held (fun W => Box W g8 65 (wc xb n xcb xd k xcD p r l cc am' m cm' s c len took xr kr xcr S))) := ⟨⟨_, HW.out.2.1⟩⟩
    have x_0 := fun q' : Held (fun W => Box W g8 65 (wc xb n xcb xd k xcD p r l cc am' m cm' s c len took xr kr xcr S)) => q'.h.cell 0
    have x_1 := fun q' : Held (fun W => Box W g8 65 (wc xb n xcb xd k xcD p r l cc am' m cm' s c len took xr kr xcr S)) => q'.h.cell 1
    have x_2 := fun q' : Held (fun W => Box W g8 65 (wc xb n xcb xd k xcD p r l cc am' m cm' s c len took xr kr xcr S)) => q'.h.cell 2
    have x_3 := fun q' : Held (fun W => Box W g8 65 (wc xb n xcb xd k xcD p r l cc am' m cm' s c len took xr kr xcr S)) => q'.h.cell 3
    have x_4 := fun q' : Held (fun W => Box W g8 65 (wc xb n xcb xd k xcD p r l cc am' m cm' s c len took xr kr xcr S)) => q'.h.cell 4
    have x_5 := fun q' : Held (fun W => Box W g8 65 (wc xb n xcb xd k xcD p r l cc am' m cm' s c len took xr kr xcr S)) => q'.h.cell 5
    have x_6 := fun q' : Held (fun W => Box W g8 65 (wc xb n xcb xd k xcD p r l cc am' m cm' s c len took xr kr xcr S)) => q'.h.cell 6
    have x_7 := fun q' : Held (fun W => Box W g8 65 (wc xb n xcb xd k xcD p r l cc am' m cm' s c len took xr kr xcr S)) => q'.h.cell 7
    have x_8 := fun q' : Held (fun W => Box W g8 65 (wc xb n xcb xd k xcD p r l cc am' m cm' s c len took xr kr xcr S)) => q'.h.cell 8
    have x_9 := fun q' : Held (fun W => Box W g8 65 (wc xb n xcb xd k xcD p r l cc am' m cm' s c len took xr kr xcr S)) => q'.h.cell 9
    have y_0 := fun q' : Held (fun W => Box W g8 65 (wc xb n xcb xd k xcD p r l cc am' m cm' s c len took xr kr xcr S)) => q'.h.cell 10
    have y_1 := fun q' : Held (fun W => Box W g8 65 (wc xb n xcb xd k xcD p r l cc am' m cm' s c len took xr kr xcr S)) => q'.h.cell 11
    have y_2 := fun q' : Held (fun W => Box W g8 65 (wc xb n xcb xd k xcD p r l cc am' m cm' s c len took xr kr xcr S)) => q'.h.cell 12
    have y_3 := fun q' : Held (fun W => Box W g8 65 (wc xb n xcb xd k xcD p r l cc am' m cm' s c len took xr kr xcr S)) => q'.h.cell 13
    have y_4 := fun q' : Held (fun W => Box W g8 65 (wc xb n xcb xd k xcD p r l cc am' m cm' s c len took xr kr xcr S)) => q'.h.cell 14
    have y_5 := fun q' : Held (fun W => Box W g8 65 (wc xb n xcb xd k xcD p r l cc am' m cm' s c len took xr kr xcr S)) => q'.h.cell 15
    have y_6 := fun q' : Held (fun W => Box W g8 65 (wc xb n xcb xd k xcD p r l cc am' m cm' s c len took xr kr xcr S)) => q'.h.cell 16
    have y_7 := fun q' : Held (fun W => Box W g8 65 (wc xb n xcb xd k xcD p r l cc am' m cm' s c len took xr kr xcr S)) => q'.h.cell 17
    have y_8 := fun q' : Held (fun W => Box W g8 65 (wc xb n xcb xd k xcD p r l cc am' m cm' s c len took xr kr xcr S)) => q'.h.cell 18
    have y_9 := fun q' : Held (fun W => Box W g8 65 (wc xb n xcb xd k xcD p r l cc am' m cm' s c len took xr kr xcr S)) => q'.h.cell 19
    have y_10 := fun q' : Held (fun W => Box W g8 65 (wc xb n xcb xd k xcD p r l cc am' m cm' s c len took xr kr xcr S)) => q'.h.cell 20
    replace HW := hide (HW.out.later (Later.refl _).drew)
    iterate 4 (refine wpJ_mild rfl (fun K hK => ?_); go_simp; refine hK _ ?_; clear hK K)
    clear x_0 x_1 x_2 x_3 x_4 x_5 x_6 x_7 x_8 x_9
    clear y_0 y_1 y_2 y_3 y_4 y_5 y_6 y_7 y_8 y_9 y_10
    have B3 := hide (BU3.out.later HW.out.1)
    refine wpJ_store rfl rfl 32 (.tmp 6) (.tmp 35) rfl g6 (uc xb n xcb xd k xcD p r l cc am' m cm' s) rfl rfl Try.info_unit (uc_one _ _ _ _ _ _ _ _ _ _ _ _ _ _) _ _ B3.out (by simp) (fun W hW => (HW.out.2.1.later hW).apart _ (by have := HGs.out; omega) _ _) ?_
    intro wl hl wz hz
    replace B3 := hide (B3.out.later hl)
    replace HW := hide (HW.out.later hl)
    have B4 := hide (BJ4.out.later HW.out.1)
    obtain ⟨_, HWb, HWm, HWs, HWr, _⟩ := HW.out
    have HM2 := HWm.setNoB B3.out (uc_nob _ _ _ _ _ _ _ _ _ _ _ _ _ _) (uc xb n xcb xd k xcD p r l cc am' m cm' s) 0
    have HS2 := owns_setBox10 HWs B3.out (by decide) (uc xb n xcb xd k xcD p r l cc am' m cm' s) 0
    have HR2 := owns_setBox10 HWr B3.out (by decide) (uc xb n xcb xd k xcD p r l cc am' m cm' s) 0
    have HB2 := HWb.apart g6 (by have := HGs.out; omega) (uc xb n xcb xd k xcD p r l cc am' m cm' s) 0
    have HL2 := (L1.out.trans HW.out.1).setCells (g := g6) (by have := HGs.out; omega) (uc xb n xcb xd k xcD p r l cc am' m cm' s) 0
    have B32 := B3.out.all (uc xb n xcb xd k xcD p r l cc am' m cm' s) rfl
    have B42 := B4.out.apart g6 (by have := HGs.out; omega) (uc xb n xcb xd k xcD p r l cc am' m cm' s) 0
    rw [← hz.out] at HM2 HS2 HR2 HB2 HL2 B32 B42
    replace B3 := hide B32
    replace B4 := hide B42
    have HM := hide HM2
    have HSn := hide HS2
    have HRs := hide HR2
    have LZ := hide HL2
    have HBw := hide HB2
    clear HM2 HS2 HR2 HB2 HL2 B32 B42 HWb HWm HWs HWr hz hl HW
    refine wpJ_store rfl rfl 38 (.tmp 7) (.tmp 37) rfl g7 (jc c len took xr kr xcr S) rfl rfl Try.info_job (jc_one _ _ _ _ _ _ _) _ _ B4.out (by simp) (fun W hW => (HBw.out.later hW).apart _ (by have := HGs.out; omega) _ _) ?_
    intro wl hl wy hy
    have HM2 := (HM.out.later hl).setNoB (B4.out.later hl) (jc_nob _ _ _ _ _ _ _) (jc c len took xr kr xcr S) 0
    have HS2 := owns_setBox10 (owns_later HSn.out hl) (B4.out.later hl) (by decide) (jc c len took xr kr xcr S) 0
    have HR2 := owns_setBox10 (owns_later HRs.out hl) (B4.out.later hl) (by decide) (jc c len took xr kr xcr S) 0
    have HL2 := (LZ.out.trans hl).setCells (g := g7) (by have := HGs.out; omega) (jc c len took xr kr xcr S) 0
    have B42 := (B4.out.later hl).all (jc c len took xr kr xcr S) rfl
    have B32 := (B3.out.later hl).apart g7 (by have := HGs.out; omega) (jc c len took xr kr xcr S) 0
    rw [← hy.out] at HM2 HS2 HR2 HL2 B32 B42
    replace B3 := hide B32
    replace B4 := hide B42
    replace HM := hide HM2
    replace HSn := hide HS2
    replace HRs := hide HR2
    replace LZ := hide HL2
    clear HM2 HS2 HR2 HL2 B32 B42 HBw hy hl
    refine wpJ_nil (fun wn hn => ?_)
    replace B3 := hide (B3.out.later hn)
    replace B4 := hide (B4.out.later hn)
    replace HM := hide (HM.out.later hn)
    replace HSn := hide (owns_later HSn.out hn)
    replace HRs := hide (owns_later HRs.out hn)
    replace LZ := hide (LZ.out.trans hn)
    clear hn
    go_wp2
    refine bodyPost_ret (results_cell_cell' rfl _ _ _ g6 0 g7 0 rfl rfl _ _ (load_unit B3.out rfl) (load_job B4.out rfl)) rfl ⟨_, _, rfl, LZ.out, ?_, ?_⟩
    · rw [HT.out]
      exact ⟨am', cm', ⟨_, _, _, _, _, rfl, HM.out⟩, by rw [← HMl.out]; exact owns_rebase HSn.out L1.out.size, HN.out⟩
    · rw [HT.out]
      refine ⟨xr, xcr, by rw [HKx.out], ?_⟩
      have h := (Bs.of_owns HRs.out).1
      rw [HKx.out] at h
      exact h
  | true =>
  have HRt := hide hrj
  clear hrj
  obtain ⟨z, hz1, hz2, hz3, hz4, -⟩ := rightJ_some (show ¬ rightJ c len took R.length = false by rw [HRt.out]; decide)
  clear hz1
  replace hz2 := hz2.symm
  subst hz2
  obtain ⟨N, hN⟩ : ∃ N, N = tkN len took kb := ⟨_, rfl⟩
  have hN1 : N ≤ kb := by rw [hN]; exact tkN_le _ _ _
  have hN2 : took + (N : Int) ≤ len := by rw [hN]; exact tkN_left _ _ _ hz4
  have hmin : (if len - took < (kb : Int) then len - took else (kb : Int)) = (N : Int) := by
    rw [hN]
    unfold tkN
    split <;> omega
  have hwr : IntKind.i64.wrap (len - took) = len - took := by
    have := HI.out
    unfold In64 at this
    rw [IntKind.wrap_i64]
    omega
  have hNb : N ≤ cb' := by omega
  obtain ⟨T, hT⟩ : ∃ T : Nat → (List UInt8 × List Drt × Sns) × Int × List UInt8, ∀ q, T q = tkR n F D p r cc c len took R S (B.take q) := ⟨_, fun _ => rfl⟩
  have HT0 : Hid (T 0 = ((F, D, S), took, R)) := by rw [Hid, hT, List.take_zero, take_nil]
  have HTN : Hid (tkR n F D p r cc c len took R S B = T N) := by rw [Hid, hT, tk_cut HRt.out N (by rw [hN, HKb.out])]
  have HTs : Hid (∀ q (h : q < B.length), T (q + 1) = tkR n (T q).1.1 (T q).1.2.1 p r cc c len (T q).2.1 (T q).2.2 (T q).1.2.2 [B[q]]) := by
    intro q h
    rw [hT q, take_take, hT (q + 1), List.take_append_getElem]
  have HTr : Hid (∀ q, rightJ c len (T q).2.1 (T q).2.2.length = true) := fun q => by rw [hT q, right_take]; exact HRt.out
  have HTt : Hid (∀ q, q ≤ N → (T q).2.1 = took + (q : Int)) := fun q hq => by
    rw [hT q, tk_took HRt.out]
    have e : (B.take q).length = q := by rw [List.length_take, ← HKb.out]; omega
    rw [e]
    unfold tkN
    rw [if_neg (by omega)]
  have HTx : Hid (∀ q, In64 (T q).2.1 ∧ OkS (T q).1.2.2 ∧ (T q).1.2.1.length ≤ 70 ∧ (T q).2.2.length ≤ 300000) := fun q => by
    rw [hT q]
    refine ⟨took_take _ _ _ _ _ _ _ _ _ _ _ _ HI.out.1 HI.out.2, tkR_ok _ _ _ _ _ _ _ _ _ _ _ _ HS.out, tkD_len _ _ _ _ _ _ _ _ _ _ _ _ HNn.out.2.1, ?_⟩
    have q1 := rest_take n F D p r cc c len took R S (B.take q)
    have q2 : (B.take q).length ≤ B.length := by rw [List.length_take]; omega
    have q3 := HLn.out
    omega
  have HN3 := hide (And.intro hN1 hN2)
  have HZ := hide (And.intro hz3 hz4)
  clear hT hN
  have y_0 := (BJ.out.later HW.out.1).cell 0
  have y_1 := (BJ.out.later HW.out.1).cell 1
  have y_2 := (BJ.out.later HW.out.1).cell 2
  have y_3 := (BJ.out.later HW.out.1).cell 3
  have y_4 := (BJ.out.later HW.out.1).cell 4
  have y_5 := (BJ.out.later HW.out.1).cell 5
  have y_6 := (BJ.out.later HW.out.1).cell 6
  have y_7 := (BJ.out.later HW.out.1).cell 7
  have y_8 := (BJ.out.later HW.out.1).cell 8
  have y_9 := (BJ.out.later HW.out.1).cell 9
  have y_10 := (BJ.out.later HW.out.1).cell 10
  go_wp2_with fail
  clear y_0 y_1 y_2 y_3 y_4 y_5 y_6 y_7 y_8 y_9 y_10
  have HAll : Hid (∃ xb xcb xd xk xcD xr xkr xcr, WkA w1 g8 xb n xcb xd xk xcD p r l cc am' m cm' s c len (T 0).2.1 xr xkr xcr (T 0).1.2.2 (T 0).1.1 (T 0).1.2.1 M (T 0).2.2 w4 ∧ xkr = (T 0).2.2.length) := ⟨xb, xcb, xd, k, xcD, xr, kr, xcr, by rw [HT0.out]; exact HW.out, by rw [HT0.out]; exact HKr.out⟩
  clear HW
  go_loopw [27] (fun i W => ∃ q : Nat, q ≤ N ∧ i = .int .i64 q ∧ Hid (∃ xb xcb xd xk xcD xr xkr xcr, WkA w1 g8 xb n xcb xd xk xcD p r l cc am' m cm' s c len (T q).2.1 xr xkr xcr (T q).1.2.2 (T q).1.1 (T q).1.2.1 M (T q).2.2 W ∧ xkr = (T q).2.2.length)) (fun i _ => N - (intOf i).toNat)
  case atStart => exact ⟨0, by omega, rfl, HAll⟩
  case round =>
  clear HAll
  obtain ⟨q, hq, rfl, HAll⟩ := hrel
  obtain ⟨xb, xcb, xd, xk, xcD, xr, xkr, xcr, hst, hxk⟩ := HAll.out
  have HW := hide hst
  have HKx := hide hxk
  clear HAll hst hxk
  by_cases hlt : q < N
  case neg =>
    obtain rfl : q = N := by omega
    have HT := hide HTN.out
    clear HTN HT0 HTs HTr HTt HTx
    generalize T q = Tq at *
    obtain ⟨⟨F2, D2, S2⟩, t2, R2⟩ := Tq
    simp only at HW HKx
    go_wp2_with fail
    refine wp_region_held (fun W => Box W g8 65 (wc xb n xcb xd xk xcD p r l cc am' m cm' s c len t2 xr xkr xcr S2)) (fun a b hl h => h.later hl) HW.out.2.1 [(0, false), (1, false), (2, false), (3, false), (4, true), (5, true)] (by kernel_rfl) (by kernel_rfl) (by kernel_rfl) (by kernel_rfl) ?_
    haveI : Nonempty (Held (fun W => Box W g8 65 (wc xb n xcb xd xk xcD p r l cc am' m cm' s c len t2 xr xkr xcr S2))) := ⟨⟨_, HW.out.2.1⟩⟩
    have x_0 := fun q' : Held (fun W => Box W g8 65 (wc xb n xcb xd xk xcD p r l cc am' m cm' s c len t2 xr xkr xcr S2)) => q'.h.cell 0
    have x_1 := fun q' : Held (fun W => Box W g8 65 (wc xb n xcb xd xk xcD p r l cc am' m cm' s c len t2 xr xkr xcr S2)) => q'.h.cell 1
    have x_2 := fun q' : Held (fun W => Box W g8 65 (wc xb n xcb xd xk xcD p r l cc am' m cm' s c len t2 xr xkr xcr S2)) => q'.h.cell 2
    have x_3 := fun q' : Held (fun W => Box W g8 65 (wc xb n xcb xd xk xcD p r l cc am' m cm' s c len t2 xr xkr xcr S2)) => q'.h.cell 3
    have x_4 := fun q' : Held (fun W => Box W g8 65 (wc xb n xcb xd xk xcD p r l cc am' m cm' s c len t2 xr xkr xcr S2)) => q'.h.cell 4
    have x_5 := fun q' : Held (fun W => Box W g8 65 (wc xb n xcb xd xk xcD p r l cc am' m cm' s c len t2 xr xkr xcr S2)) => q'.h.cell 5
    have x_6 := fun q' : Held (fun W => Box W g8 65 (wc xb n xcb xd xk xcD p r l cc am' m cm' s c len t2 xr xkr xcr S2)) => q'.h.cell 6
    have x_7 := fun q' : Held (fun W => Box W g8 65 (wc xb n xcb xd xk xcD p r l cc am' m cm' s c len t2 xr xkr xcr S2)) => q'.h.cell 7
    have x_8 := fun q' : Held (fun W => Box W g8 65 (wc xb n xcb xd xk xcD p r l cc am' m cm' s c len t2 xr xkr xcr S2)) => q'.h.cell 8
    have x_9 := fun q' : Held (fun W => Box W g8 65 (wc xb n xcb xd xk xcD p r l cc am' m cm' s c len t2 xr xkr xcr S2)) => q'.h.cell 9
    have y_0 := fun q' : Held (fun W => Box W g8 65 (wc xb n xcb xd xk xcD p r l cc am' m cm' s c len t2 xr xkr xcr S2)) => q'.h.cell 10
    have y_1 := fun q' : Held (fun W => Box W g8 65 (wc xb n xcb xd xk xcD p r l cc am' m cm' s c len t2 xr xkr xcr S2)) => q'.h.cell 11
    have y_2 := fun q' : Held (fun W => Box W g8 65 (wc xb n xcb xd xk xcD p r l cc am' m cm' s c len t2 xr xkr xcr S2)) => q'.h.cell 12
    have y_3 := fun q' : Held (fun W => Box W g8 65 (wc xb n xcb xd xk xcD p r l cc am' m cm' s c len t2 xr xkr xcr S2)) => q'.h.cell 13
    have y_4 := fun q' : Held (fun W => Box W g8 65 (wc xb n xcb xd xk xcD p r l cc am' m cm' s c len t2 xr xkr xcr S2)) => q'.h.cell 14
    have y_5 := fun q' : Held (fun W => Box W g8 65 (wc xb n xcb xd xk xcD p r l cc am' m cm' s c len t2 xr xkr xcr S2)) => q'.h.cell 15
    have y_6 := fun q' : Held (fun W => Box W g8 65 (wc xb n xcb xd xk xcD p r l cc am' m cm' s c len t2 xr xkr xcr S2)) => q'.h.cell 16
    have y_7 := fun q' : Held (fun W => Box W g8 65 (wc xb n xcb xd xk xcD p r l cc am' m cm' s c len t2 xr xkr xcr S2)) => q'.h.cell 17
    have y_8 := fun q' : Held (fun W => Box W g8 65 (wc xb n xcb xd xk xcD p r l cc am' m cm' s c len t2 xr xkr xcr S2)) => q'.h.cell 18
    have y_9 := fun q' : Held (fun W => Box W g8 65 (wc xb n xcb xd xk xcD p r l cc am' m cm' s c len t2 xr xkr xcr S2)) => q'.h.cell 19
    have y_10 := fun q' : Held (fun W => Box W g8 65 (wc xb n xcb xd xk xcD p r l cc am' m cm' s c len t2 xr xkr xcr S2)) => q'.h.cell 20
    replace HW := hide (HW.out.later (Later.refl _).drew)
    iterate 4 (refine wpJ_mild rfl (fun K hK => ?_); go_simp; refine hK _ ?_; clear hK K)
    clear x_0 x_1 x_2 x_3 x_4 x_5 x_6 x_7 x_8 x_9
    clear y_0 y_1 y_2 y_3 y_4 y_5 y_6 y_7 y_8 y_9 y_10
    have B3 := hide (BU3.out.later HW.out.1)
    refine wpJ_store rfl rfl 32 (.tmp 6) (.tmp 35) rfl g6 (uc xb n xcb xd xk xcD p r l cc am' m cm' s) rfl rfl Try.info_unit (uc_one _ _ _ _ _ _ _ _ _ _ _ _ _ _) _ _ B3.out (by simp) (fun W hW => (HW.out.2.1.later hW).apart _ (by have := HGs.out; omega) _ _) ?_
    intro wl hl wz hz
    replace B3 := hide (B3.out.later hl)
    replace HW := hide (HW.out.later hl)
    have B4 := hide (BJ4.out.later HW.out.1)
    obtain ⟨_, HWb, HWm, HWs, HWr, _⟩ := HW.out
    have HM2 := HWm.setNoB B3.out (uc_nob _ _ _ _ _ _ _ _ _ _ _ _ _ _) (uc xb n xcb xd xk xcD p r l cc am' m cm' s) 0
    have HS2 := owns_setBox10 HWs B3.out (by decide) (uc xb n xcb xd xk xcD p r l cc am' m cm' s) 0
    have HR2 := owns_setBox10 HWr B3.out (by decide) (uc xb n xcb xd xk xcD p r l cc am' m cm' s) 0
    have HB2 := HWb.apart g6 (by have := HGs.out; omega) (uc xb n xcb xd xk xcD p r l cc am' m cm' s) 0
    have HL2 := (L1.out.trans HW.out.1).setCells (g := g6) (by have := HGs.out; omega) (uc xb n xcb xd xk xcD p r l cc am' m cm' s) 0
    have B32 := B3.out.all (uc xb n xcb xd xk xcD p r l cc am' m cm' s) rfl
    have B42 := B4.out.apart g6 (by have := HGs.out; omega) (uc xb n xcb xd xk xcD p r l cc am' m cm' s) 0
    rw [← hz.out] at HM2 HS2 HR2 HB2 HL2 B32 B42
    replace B3 := hide B32
    replace B4 := hide B42
    have HM := hide HM2
    have HSn := hide HS2
    have HRs := hide HR2
    have LZ := hide HL2
    have HBw := hide HB2
    clear HM2 HS2 HR2 HB2 HL2 B32 B42 HWb HWm HWs HWr hz hl HW
    refine wpJ_store rfl rfl 38 (.tmp 7) (.tmp 37) rfl g7 (jc c len t2 xr xkr xcr S2) rfl rfl Try.info_job (jc_one _ _ _ _ _ _ _) _ _ B4.out (by simp) (fun W hW => (HBw.out.later hW).apart _ (by have := HGs.out; omega) _ _) ?_
    intro wl hl wy hy
    have HM2 := (HM.out.later hl).setNoB (B4.out.later hl) (jc_nob _ _ _ _ _ _ _) (jc c len t2 xr xkr xcr S2) 0
    have HS2 := owns_setBox10 (owns_later HSn.out hl) (B4.out.later hl) (by decide) (jc c len t2 xr xkr xcr S2) 0
    have HR2 := owns_setBox10 (owns_later HRs.out hl) (B4.out.later hl) (by decide) (jc c len t2 xr xkr xcr S2) 0
    have HL2 := (LZ.out.trans hl).setCells (g := g7) (by have := HGs.out; omega) (jc c len t2 xr xkr xcr S2) 0
    have B42 := (B4.out.later hl).all (jc c len t2 xr xkr xcr S2) rfl
    have B32 := (B3.out.later hl).apart g7 (by have := HGs.out; omega) (jc c len t2 xr xkr xcr S2) 0
    rw [← hy.out] at HM2 HS2 HR2 HL2 B32 B42
    replace B3 := hide B32
    replace B4 := hide B42
    replace HM := hide HM2
    replace HSn := hide HS2
    replace HRs := hide HR2
    replace LZ := hide HL2
    clear HM2 HS2 HR2 HL2 B32 B42 HBw hy hl
    refine wpJ_nil (fun wn hn => ?_)
    replace B3 := hide (B3.out.later hn)
    replace B4 := hide (B4.out.later hn)
    replace HM := hide (HM.out.later hn)
    replace HSn := hide (owns_later HSn.out hn)
    replace HRs := hide (owns_later HRs.out hn)
    replace LZ := hide (LZ.out.trans hn)
    clear hn
    go_wp2
    refine bodyPost_ret (results_cell_cell' rfl _ _ _ g6 0 g7 0 rfl rfl _ _ (load_unit B3.out rfl) (load_job B4.out rfl)) rfl ⟨_, _, rfl, LZ.out, ?_, ?_⟩
    · rw [HT.out]
      exact ⟨am', cm', ⟨_, _, _, _, _, rfl, HM.out⟩, by rw [← HMl.out]; exact owns_rebase HSn.out L1.out.size, HN.out⟩
    · rw [HT.out]
      refine ⟨xr, xcr, by rw [HKx.out], ?_⟩
      have h := (Bs.of_owns HRs.out).1
      rw [HKx.out] at h
      exact h
  have hqB : q < B.length := by have := HKb.out; omega
  obtain ⟨bx, ox, rfl, hbx⟩ : ∃ bx ox, bb = some ⟨bx, ox, none⟩ ∧ wr.cell? ⟨bx, ox + q, none⟩ = some (.int .u8 (B[q].toNat : Int)) := by
    obtain ⟨g1, a, cap, e, g2, g3⟩ := HB0.out.later (L1.out.trans HW.out.1)
    simp at e
    obtain ⟨rfl, -, rfl⟩ := e
    rcases g3 with g3 | ⟨b, o, rfl, g3⟩
    · exfalso; rw [g3] at hqB; simp at hqB
    · exact ⟨b, o, rfl, g3 _ hqB⟩
  have hT1 := hide (HTs.out q hqB)
  generalize B[q] = X at *
  go_wp2_with fail
  refine (wtake_c HG8.out HW.out HKx.out X (HTr.out q) (by have := HTt.out q hq; have := HN3.out.2; omega) HI.out.1 (HTx.out q).1 HC.out (HTx.out q).2.1 (by have := HNn.out; omega) (by have := (HTx.out q).2.2.1; omega) (by have := (HTx.out q).2.2.2; omega)).mono ?_
  rintro e w5 ⟨v, b1, b2, b3, b4, b5, b6, b7, rfl, hw⟩
  rw [← hT1.out] at hw
  have HA := hide hw
  clear hw hbx HW
  go_wp2
  go_roundw
  case rel => exact ⟨q + 1, by omega, by go_num, ⟨b1, b2, b3, b4, b5, b6, _, b7, HA.out, rfl⟩⟩
  case measure => simp [intOf]; omega
end Go.Proofs.Ytbcikndebaeahaa

namespace Go.Proofs.Ytbcikndebaeahaa
open Go.ChangeShapes Go.WideShapes Go.ChangeAt Go.RowKit
set_option linter.unusedVariables false
set_option maxRecDepth 4000
set_option linter.unusedSimpArgs false
/-! What is asked of the landed mode. -/
def ISel8 : Prop := ∀ (v : Value) (l : List UInt8) (ten caching : Bool) (w : World), Bs w v l → l.length ≤ 1000000 → Calls Try.prog 60 #[v, .bool ten, .bool caching] w fun e w' => e = .returned (.tuple #[.bool (selR l ten caching).1, sval (selR l ten caching).2]) ∧ Later w w'
end Go.Proofs.Ytbcikndebaeahaa

namespace Go.Proofs.Ytbcikndebaeahaa
open Go.ChangeShapes Go.WideShapes Go.ChangeAt Go.RowKit
set_option linter.unusedVariables false
set_option maxRecDepth 4000
set_option linter.unusedSimpArgs false
end Go.Proofs.Ytbcikndebaeahaa

namespace Go.Proofs.Ytbcikndebaeahaa
open Go.ChangeShapes Go.WideShapes Go.ChangeAt Go.RowKit
set_option linter.unusedVariables false
set_option maxRecDepth 4000
set_option linter.unusedSimpArgs false
/-! The landed inquiry: Cut. -/
end Go.Proofs.Ytbcikndebaeahaa

namespace Go.Proofs.Ytbcikndebaeahaa
open Go.ChangeShapes Go.WideShapes Go.ChangeAt Go.RowKit
set_option linter.unusedVariables false
set_option maxRecDepth 4000
set_option linter.unusedSimpArgs false
/-! The landed mode: the pages. -/
/-- bytes of the call's own -/
def MkP (f : FuncId) (xs : Array Value) (n : Nat) (l : List UInt8) : Prop := ∀ w : World, Calls Try.prog f xs w fun e w' => ∃ g, e = .returned (.slice (some ⟨g, 0, none⟩) n n) ∧ Later w w' ∧ w.heap.size ≤ g ∧ Box w' g 5 (bv l)
theorem Try.info_u8s : (Try.prog.info? 5).map (·.size) = some 1 := by kernel_rfl
theorem emptyPage_8 : MkP 93 #[.int .u8 8, .int .u8 18] 20 (pg8 false) := by
  intro w
  have LL := hide (Later.refl w)
  go_enter Try.func93, Try.ntmps93
  go_wp2_with (refine wpList_makeB rfl (.tmp 8) (.tmp 8) rfl 20 rfl rfl (by decide) ?_)
  intro g w1 hB hl hg
  replace LL := hide (LL.out.trans hl)
  have BX := hide hB
  have HG : Hid (w.heap.size ≤ g) := by rw [Hid, hg.out]; exact Nat.le_refl _
  clear hl hg hB
  go_wp2_with (refine wpList_storeB rfl 5 (.tmp 14) (.tmp 12) rfl g 0 rfl 8 rfl Try.info_u8s 5 (List.replicate 20 0) BX.out (by simp) 8 rfl ?_)
  intro w2 hB h2
  have B2 := hide hB
  have L2 : Hid (Later w w2) := by rw [h2.out]; exact LL.out.setCells HG.out _ _
  clear hB h2 BX LL
  go_wp2_with (refine wpList_storeB rfl 5 (.tmp 15) (.tmp 13) rfl g 1 rfl 18 rfl Try.info_u8s 5 ((List.replicate 20 0).set 0 8) B2.out (by simp) 18 rfl ?_)
  intro w3 hB h3
  have B3 := hide hB
  have L3 : Hid (Later w w3) := by rw [h3.out]; exact L2.out.setCells HG.out _ _
  clear hB h3 B2 L2
  go_wp2
  go_ret
  exact ⟨g, rfl, L3.out, HG.out, B3.out⟩
theorem emptyPage_28 : MkP 93 #[.int .u8 28, .int .u8 10] 12 (pg28) := by
  intro w
  have LL := hide (Later.refl w)
  go_enter Try.func93, Try.ntmps93
  go_wp2_with (refine wpList_makeB rfl (.tmp 8) (.tmp 8) rfl 12 rfl rfl (by decide) ?_)
  intro g w1 hB hl hg
  replace LL := hide (LL.out.trans hl)
  have BX := hide hB
  have HG : Hid (w.heap.size ≤ g) := by rw [Hid, hg.out]; exact Nat.le_refl _
  clear hl hg hB
  go_wp2_with (refine wpList_storeB rfl 5 (.tmp 14) (.tmp 12) rfl g 0 rfl 28 rfl Try.info_u8s 5 (List.replicate 12 0) BX.out (by simp) 28 rfl ?_)
  intro w2 hB h2
  have B2 := hide hB
  have L2 : Hid (Later w w2) := by rw [h2.out]; exact LL.out.setCells HG.out _ _
  clear hB h2 BX LL
  go_wp2_with (refine wpList_storeB rfl 5 (.tmp 15) (.tmp 13) rfl g 1 rfl 10 rfl Try.info_u8s 5 ((List.replicate 12 0).set 0 28) B2.out (by simp) 10 rfl ?_)
  intro w3 hB h3
  have B3 := hide hB
  have L3 : Hid (Later w w3) := by rw [h3.out]; exact L2.out.setCells HG.out _ _
  clear hB h3 B2 L2
  go_wp2
  go_ret
  exact ⟨g, rfl, L3.out, HG.out, B3.out⟩
theorem excPage_c : MkP 87 #[] 12 pg28 := by
  intro w
  go_enter Try.func87, Try.ntmps87
  go_wp2_with fail
  refine (emptyPage_28 _).mono ?_
  rintro e w1 ⟨g, rfl, hl, hg, hB⟩
  have L := hide hl
  have G := hide hg
  have B := hide hB
  clear hl hg hB
  go_wp2
  go_ret
  exact ⟨g, rfl, L.out, G.out, B.out⟩
theorem cachingPage_c (on : Bool) : MkP 86 #[.bool on] 20 (pg8 on) := by
  intro w
  go_enter Try.func86, Try.ntmps86
  go_wp2_with fail
  refine (emptyPage_8 _).mono ?_
  rintro e w1 ⟨g, rfl, hl, hg, hB⟩
  have L := hide hl
  have G := hide hg
  have B := hide hB
  clear hl hg hB
  cases on with
  | false =>
    go_wp2
    go_ret
    exact ⟨g, rfl, L.out, G.out, B.out⟩
  | true =>
    go_wp2_with (refine wpList_storeB rfl 5 (.tmp 7) (.const (.int .u8 4)) rfl g 2 rfl 4 rfl Try.info_u8s 5 (pg8 false) B.out (by decide) 4 rfl ?_)
    intro w3 hB h3
    have B3 : Hid (Box w3 g 5 (bv (pg8 true))) := hB
    have L3 : Hid (Later w w3) := by rw [h3.out]; exact L.out.setCells G.out _ _
    clear hB h3 B L
    go_wp2
    go_ret
    exact ⟨g, rfl, L3.out, G.out, B3.out⟩
end Go.Proofs.Ytbcikndebaeahaa

namespace Go.Proofs.Ytbcikndebaeahaa
open Go.ChangeShapes Go.WideShapes Go.ChangeAt Go.RowKit
set_option linter.unusedVariables false
set_option maxRecDepth 4000
set_option linter.unusedSimpArgs false
/-! The landed mode: Page. -/
end Go.Proofs.Ytbcikndebaeahaa

namespace Go.Proofs.Ytbcikndebaeahaa
open Go.ChangeShapes Go.WideShapes Go.ChangeAt Go.RowKit
set_option linter.unusedVariables false
set_option maxRecDepth 4000
set_option linter.unusedSimpArgs false
/-! The landed mode: an answer's header. -/
theorem headerSize_c (ten : Bool) (w : World) : Calls Try.prog 83 #[.bool ten] w fun e w' => e = .returned (.tuple #[.int .i64 (if ten then 8 else 4), .int .i64 (if ten then 2 else 1)]) ∧ w' = w := by
  cases ten with
  | true =>
    go_enter Try.func83, Try.ntmps83
    go_wp2
    go_ret2
    exact ⟨rfl, rfl⟩
  | false =>
    go_enter Try.func83, Try.ntmps83
    go_wp2
    go_ret2
    exact ⟨rfl, rfl⟩
end Go.Proofs.Ytbcikndebaeahaa

namespace Go.Proofs.Ytbcikndebaeahaa
open Go.ChangeShapes Go.WideShapes Go.ChangeAt Go.RowKit
set_option linter.unusedVariables false
set_option maxRecDepth 4000
set_option linter.unusedSimpArgs false
/-! The landed mode: Answer. -/
end Go.Proofs.Ytbcikndebaeahaa
