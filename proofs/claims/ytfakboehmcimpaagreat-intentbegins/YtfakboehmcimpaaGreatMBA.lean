import Derived.Test.YtfakboehmcimpaaGreatMAL
import Derived.Test.YtfakboehmcimpaaGreatMAW
import Derived.Test.YtfakboehmcimpaaGreatMAX
import Derived.Test.YtfakboehmcimpaaGreatMAZ
import Derived.Test.YtfakboehmcimpaaGreatMAY
import Derived.Test.YtfakboehmcimpaaGreatMAR
namespace Go.Proofs.YtfakboehmcimpaaGreat
open Go.ChangeShapes Go.WideShapes Go.ChangeAt Go.RowKit
set_option linter.unusedVariables false
set_option maxRecDepth 4000
set_option linter.unusedSimpArgs false
/-! The landed sense: lists of senses. -/
set_option maxHeartbeats 1000000 in
theorem sindex_c {v : Value} {L : List Sns} (s : Sns) (w : World) (h : Sl w v L) :
    Calls Tryz.prog 133 #[v, sval s] w fun e w' => ∃ i : Int, e = .returned (.int .i64 i) ∧ Hid (decide (0 ≤ i) = hasB L s) ∧ Later w w' := by
  obtain ⟨h, hok⟩ := h
  obtain ⟨k, hk⟩ : ∃ k, k = L.length := ⟨_, rfl⟩
  rw [← hk] at h
  obtain ⟨ad, cap, rfl⟩ := h.shape
  have hkm := h.2.1
  unfold maxLen at hkm
  have HL := hide h
  have HK := hide hk
  clear h hk hok
  have BX0 := hide (Box.new w 30 #[.int .i64 s.1, .int .i64 s.2.1, .int .i64 s.2.2])
  have L0 := hide ((Later.refl w).alloc (.cells #[.int .i64 s.1, .int .i64 s.2.1, .int .i64 s.2.2] 30))
  go_enter Tryz.func133, Tryz.ntmps133
  go_wp2_with fail
  go_loopw [8] (fun i wr => ∃ q : Nat, q ≤ k ∧ i = .int .i64 q ∧ Hid (∀ j (hj : j < L.length), j < q → (s == L[j]) = false) ∧ Hid (Box wr w.heap.size 30 [.int .i64 s.1, .int .i64 s.2.1, .int .i64 s.2.2]) ∧ Hid (Later w wr)) (fun i _ => k - (intOf i).toNat)
  case atStart => exact ⟨0, Nat.zero_le _, rfl, fun _ _ h => by omega, BX0, L0⟩
  case round =>
    clear BX0 L0
    obtain ⟨q, hq, rfl, hall, hbx, hl⟩ := hrel
    by_cases hlt : q < k
    · obtain ⟨b, off, e, hr⟩ := (HL.out.later hl.out).lies? (by omega)
      subst e
      have hqL : q < L.length := by have := HK.out; omega
      have hat := sv_at L q hqL
      have c0 := hr _ _ hat.1
      have c1 := hr _ _ hat.2.1
      have c2 := hr _ _ hat.2.2
      have hyes : Hid ((s == L[q]) = true → hasB L s = true) := fun h => by
        rw [hasB, List.any_eq_true]; exact ⟨_, List.getElem_mem hqL, by rw [BEq.comm]; exact h⟩
      have hno : Hid ((s == L[q]) = false → ∀ j (hj : j < L.length), j < q + 1 → (s == L[j]) = false) := by
        intro h j hj hjq
        by_cases hjq' : j = q
        · subst hjq'; exact h
        · exact hall.out j hj (by omega)
      generalize L[q] = t at *
      clear hat hr hall
      rw [← Nat.add_assoc] at c1 c2
      have hc := fun r => ((Later.refl wr).drew.trans (later_rg wr.drew r))
      have a0 := fun r => (hc r).cellOf c0
      have a1 := fun r => (hc r).cellOf c1
      have a2 := fun r => (hc r).cellOf c2
      have x0 := fun r => (hbx.out.later (hc r)).cell 0
      have x1 := fun r => (hbx.out.later (hc r)).cell 1
      have x2 := fun r => (hbx.out.later (hc r)).cell 2
      go_wp2_with fail
      refine wp_region_sched ((List.range 6).map fun i => (i, false)) (by kernel_rfl) (by kernel_rfl) (by kernel_rfl) (by kernel_rfl) ?_
      simp only [List.range, List.range.loop, List.map]
      iterate 5 (refine wpS_mild rfl (fun K hK => ?_); go_simp; refine hK _ ?_; clear hK K)
      refine wpS_eqG rfl (by kernel_rfl) 30 _ (.tmp 11) (.tmp 15) rfl _ _ rfl rfl Tryz.guard_sense (s == t) (fun w => sense_eq s t w) ?_
      refine wpS_nil (fun wx hwx => ?_)
      have Lx := hide (hl.out.drew.trans hwx)
      have Bx := hide (Box.later hbx.out ((Later.refl wr).drew.trans hwx))
      clear a0 a1 a2 x0 x1 x2 c0 c1 c2 hc hwx hl hbx
      cases hts : (s == t) with
      | true =>
        rw [hts] at hyes
        go_wp2
        go_ret
        refine ⟨_, rfl, ?_, Lx.out⟩
        unfold Hid
        rw [hyes.out (by simp)]
        simp
      | false =>
        rw [hts] at hno
        go_wp2
        go_roundw
        case rel => exact ⟨q + 1, by omega, by go_num, hno.out (by simp), Bx, Lx⟩
        case measure => simp [intOf]; omega
    · go_wp2
      go_ret
      refine ⟨_, rfl, ?_, hl.out⟩
      have hk := HK.out
      have : hasB L s = false := by
        rw [hasB, List.any_eq_false]
        intro x hx
        obtain ⟨j, hj, rfl⟩ := List.mem_iff_getElem.1 hx
        rw [BEq.comm]
        simp [hall.out j hj (by omega)]
      unfold Hid
      rw [this]
      simp
theorem scont_c {v : Value} {L : List Sns} (s : Sns) (w : World) (h : Sl w v L) :
    Calls Tryz.prog 127 #[v, sval s] w fun e w' => e = .returned (.bool (hasB L s)) ∧ Later w w' := by
  have H := hide h
  obtain ⟨k, hk⟩ : ∃ k, k = L.length := ⟨_, rfl⟩
  obtain ⟨h, hok⟩ := h
  rw [← hk] at h
  obtain ⟨ad, cap, rfl⟩ := h.shape
  clear h hk hok
  have BX := hide (Box.new w 30 #[.int .i64 s.1, .int .i64 s.2.1, .int .i64 s.2.2])
  have L0 := hide ((Later.refl w).alloc (.cells #[.int .i64 s.1, .int .i64 s.2.1, .int .i64 s.2.2] 30))
  go_enter Tryz.func127, Tryz.ntmps127
  go_wp2_with fail
  refine (sindex_c s _ (H.out.later L0.out)).mono ?_
  rintro e w1 ⟨i, rfl, hi, hl⟩
  have L1 := hide (L0.out.trans hl)
  clear hl L0 BX
  go_wp2
  go_ret
  exact ⟨ret_bool hi.out, L1.out⟩
set_option maxHeartbeats 1000000 in
theorem slist_c {u v : Value} {L M : List Sns} (w : World) (hu : Sl w u L) (hv : Sl w v M) (hn : L.length ≤ 1000) (hm : M.length ≤ 1000) :
    Calls Tryz.prog 128 #[u, v] w fun e w' => ∃ v', e = .returned v' ∧ Later w w' ∧ SlO w' w.heap.size v' (L ++ M) := by
  obtain ⟨hu, hou⟩ := hu
  obtain ⟨hv, hov⟩ := hv
  obtain ⟨k, hk⟩ : ∃ k, k = L.length := ⟨_, rfl⟩
  obtain ⟨m, hmm⟩ : ∃ m, m = M.length := ⟨_, rfl⟩
  rw [← hk] at hu hn
  rw [← hmm] at hv hm
  obtain ⟨au, cu, rfl⟩ := hu.shape
  obtain ⟨av, cv, rfl⟩ := hv.shape
  have HU := hide hu
  have HV := hide hv
  have HK := hide hk
  have HM := hide hmm
  clear hu hv hk hmm hou hov
  go_enter Tryz.func128, Tryz.ntmps128
  go_wp2_with (at_make; refine wpList_make_room Tryz.elem_sense rfl _ _ 28 rfl Tryz.underlying28 _ (k + m) rfl rfl ?c0 ?c1 ?c2 ?_)
  case c0 => first | (simp; done) | go_num | (simp [IntKind.wrap_i64]; omega)
  case c1 => omega
  case c2 => unfold maxLen; omega
  intro w1 ho1 hl1
  have O1 := hide ho1
  have L1 : Hid (Below w.heap.size w w1) := hl1
  have U1 := hide (HU.out.later hl1)
  have V1 := hide (HV.out.later hl1)
  clear ho1 hl1
  go_wp2_with (at_builtin; refine wpList_append_rw Tryz.elem_sense Tryz.underlying28 rfl (by decide) rfl (.tmp 12) (.tmp 13) rfl w.heap.size _ 0 [] rfl O1.out _ k (sv L) rfl U1.out (sv_one L) ?c1 ?c2 ?c3 w L1.out ?_)
  case c1 => omega
  case c2 => unfold maxLen; omega
  case c3 => exact L1.out.size
  intro v2 w2 ho2 hb2 hg2
  have O2 : Hid (w2.ownsRow w.heap.size 30 3 v2 k (sv L)) := by simpa [Hid] using ho2
  have L2 : Hid (Below w.heap.size w w2) := hb2
  have V2 : Hid (Rw 3 w2 (.slice av m cv) m (sv M)) := HV.out.later hb2
  clear ho2 hb2 hg2 O1 L1 U1 V1
  go_wp2_with (at_builtin; refine wpList_append_rw Tryz.elem_sense Tryz.underlying28 rfl (by decide) rfl (.tmp 15) (.tmp 16) rfl w.heap.size _ k (sv L) rfl O2.out _ m (sv M) rfl V2.out (sv_one M) ?c1 ?c2 ?c3 w L2.out ?_)
  case c1 => omega
  case c2 => unfold maxLen; omega
  case c3 => exact L2.out.size
  intro v3 w3 ho3 hb3 hg3
  go_wp2
  go_ret
  refine ⟨_, rfl, hb3, ?_⟩
  unfold SlO
  rw [sv_append, List.length_append, ← HK.out, ← HM.out]
  exact ho3
/-! Add. -/
set_option maxRecDepth 20000 in
set_option maxHeartbeats 1000000 in
theorem sadd_o (v : Value) (L : List Sns) (s : Sns) (w : World) (h : Sl w v L) (hs : OkS s) (hn : L.length ≤ 100) : Calls Tryz.prog 107 #[v, sval s] w fun e w' => ∃ v', e = .returned v' ∧ Later w w' ∧ SlO w' w.heap.size v' (addL L s) := by
  have HS := hide h
  have HOs := hide hs
  obtain ⟨h, hok⟩ := h
  have HOk := hide hok
  obtain ⟨k, hk⟩ : ∃ k, k = L.length := ⟨_, rfl⟩
  rw [← hk] at h hn
  obtain ⟨ad, cap, rfl⟩ := h.shape
  have HK := hide hk
  clear h hk hok hs
  have BX := hide (Box.new w 30 #[.int .i64 s.1, .int .i64 s.2.1, .int .i64 s.2.2])
  have L0 := hide ((Later.refl w).alloc (.cells #[.int .i64 s.1, .int .i64 s.2.1, .int .i64 s.2.2] 30))
  go_enter Tryz.func107, Tryz.ntmps107
  go_wp2_with fail
  refine (scont_c s _ (HS.out.later L0.out)).mono ?_
  generalize (w.alloc (.cells #[.int .i64 s.1, .int .i64 s.2.1, .int .i64 s.2.2] 30)) = w1 at *
  rintro e w2 ⟨rfl, hl⟩
  replace BX := hide (BX.out.later hl)
  replace L0 := hide (L0.out.later hl)
  clear hl
  cases hH : hasB L s with
  | true =>
    have hA : Hid (addL L s = L ++ []) := by unfold Hid addL; rw [hH]; simp
    go_wp2_with fail
    refine (slist_c _ (HS.out.later L0.out) (Sl.nil _) (by have := HK.out; omega) (by simp)).mono ?_
    rintro e w3 ⟨v3, rfl, hl, ho⟩
    have L1 := hide (L0.out.trans hl)
    have O := hide (ho.rebase L0.out.size)
    clear hl ho
    go_wp2
    go_ret
    refine ⟨_, rfl, L1.out, ?_⟩
    rw [← hA.out] at O
    exact O.out
  | false =>
    have hc := fun r => ((Later.refl w2).drew.trans (later_rg w2.drew r))
    have a0 := fun r => (BX.out.later (hc r)).cell 0
    have a1 := fun r => (BX.out.later (hc r)).cell 1
    have a2 := fun r => (BX.out.later (hc r)).cell 2
    go_wp2_with fail
    refine wp_region_sched [(0, false), (1, false), (2, false)] (by kernel_rfl) (by kernel_rfl) (by kernel_rfl) (by kernel_rfl) ?_
    iterate 1 (refine wpS_mild rfl (fun K hK => ?_); go_simp; refine hK _ ?_; clear hK K)
    refine wpS_call rfl (by kernel_rfl) 129 (Plain.of (by kernel_rfl)) [] _ rfl [] rfl (sval power) (fun wx hx => con_PowerOn wx) ?_
    refine wpS_eqG rfl (by kernel_rfl) 30 _ (.tmp 10) (.tmp 11) rfl _ _ rfl rfl Tryz.guard_sense (s == power) (fun w => sense_eq s power w) ?_
    refine wpS_nil (fun wx hwx => ?_)
    have hwx' := (Later.refl w2).drew.trans hwx
    replace BX := hide (BX.out.later hwx')
    replace L0 := hide (L0.out.later hwx')
    clear a0 a1 a2 hc hwx hwx'
    have d0 := BX.out.cell 0
    have d1 := BX.out.cell 1
    have d2 := BX.out.cell 2
    have hR1 : Hid (Sl (wx.alloc (.cells #[.int .i64 s.1, .int .i64 s.2.1, .int .i64 s.2.2] 30)) (.slice (some ⟨wx.heap.size, 0, none⟩) 1 1) [s]) := (SlO.box wx s).sl (by intro x hx; simp at hx; rw [hx]; exact HOs.out)
    have L5 := hide (L0.out.alloc (.cells #[.int .i64 s.1, .int .i64 s.2.1, .int .i64 s.2.2] 30))
    cases hP : (s == power) with
    | true =>
      have hA : Hid (addL L s = [] ++ [s]) := by unfold Hid addL; rw [hH, hP]; rfl
      go_wp2_with fail
      refine (slist_c _ (Sl.nil _) hR1.out (by simp) (by simp)).mono ?_
      rintro e w3 ⟨v3, rfl, hl, ho⟩
      have L1 := hide (L5.out.trans hl)
      have O := hide (ho.rebase L5.out.size)
      clear hl ho
      go_wp2
      go_ret
      refine ⟨_, rfl, L1.out, ?_⟩
      rw [← hA.out] at O
      exact O.out
    | false =>
      by_cases h4 : 4 ≤ k
      · have hA : Hid (addL L s = L ++ []) := by have hk := HK.out; unfold Hid addL; rw [if_neg (by simp [hH]), if_neg (by simp [hP]), if_pos (by omega)]; simp
        clear d0 d1 d2
        go_wp2_with fail
        refine (slist_c _ (HS.out.later L0.out) (Sl.nil _) (by have := HK.out; omega) (by simp)).mono ?_
        rintro e w3 ⟨v3, rfl, hl, ho⟩
        have L1 := hide (L0.out.trans hl)
        have O := hide (ho.rebase L0.out.size)
        clear hl ho
        go_wp2
        go_ret
        refine ⟨_, rfl, L1.out, ?_⟩
        rw [← hA.out] at O
        exact O.out
      · have hA : Hid (addL L s = L ++ [s]) := by have hk := HK.out; unfold Hid addL; rw [if_neg (by simp [hH]), if_neg (by simp [hP]), if_neg (by omega)]
        go_wp2_with fail
        refine (slist_c _ (HS.out.later L5.out) hR1.out (by have := HK.out; omega) (by simp)).mono ?_
        rintro e w3 ⟨v3, rfl, hl, ho⟩
        have L1 := hide (L5.out.trans hl)
        have O := hide (ho.rebase L5.out.size)
        clear hl ho
        go_wp2
        go_ret
        refine ⟨_, rfl, L1.out, ?_⟩
        rw [← hA.out] at O
        exact O.out
end Go.Proofs.YtfakboehmcimpaaGreat

namespace Go.Proofs.YtfakboehmcimpaaGreat
open Go.ChangeShapes Go.WideShapes Go.ChangeAt Go.RowKit
set_option linter.unusedVariables false
set_option maxRecDepth 4000
set_option linter.unusedSimpArgs false
/-! The landed intent: tellLast, keep. -/
def kpL (p on l : Bool) : Bool := if p then on else l
abbrev zU : List Value := uc none 0 0 none 0 0 false false false false none 0 0 (0, 0, 0)
def IVc (y : List Value) (T : Itt) (W : World) : Prop := ∃ ax cx ar cr, y = ic T.1 T.2.1 ax T.2.2.1.length cx T.2.2.2.1 T.2.2.2.2.1 0 ar 0 cr (0, 0, 0) T.2.2.2.2.2 ∧ Bs W (.slice ax T.2.2.1.length cx) T.2.2.1
theorem IV.c {w : World} {v : Value} {T : Itt} (h : IV w v T) : ∃ y, v = .agg y.toArray ∧ IVc y T w := by
  obtain ⟨ax, cx, ar, cr, rfl, hb⟩ := h
  exact ⟨_, rfl, ax, cx, ar, cr, rfl, hb⟩
theorem PdI.mk11 {b W : World} {ab : Option Addr} {n cb : Nat} {aD : Option Addr} {k cD : Nat} {F : List UInt8} {D : List Drt} {p r l cc : Bool} {am am' : Option Addr} {cm m' cm' : Nat} {M M' : List Sns} {s : Sns} {T : Itt} {y : List Value} (hm : Med W (.agg #[.slice ab n cb, .slice aD k cD]) n F D) (ha : At11 b W am cm M am' cm' M') (hl : m' = M'.length) (hy : IVc y T W) :
    PdI b n r cc am cm M ((F, D, p, l, M', s), T) (uc ab n cb aD k cD p r l cc am' m' cm' s) y W := by
  subst hl
  exact ⟨⟨_, _, _, _, _, _, _, rfl, hm, ha⟩, hy⟩
theorem At11.same {b W : World} {am : Option Addr} {cm : Nat} {M : List Sns} : At11 b W am cm M am cm M := .inl ⟨rfl, rfl, rfl⟩
theorem Fr11.mk {w0 b : World} {g4 g5 : Nat} {z z' : List Value} (h1 : Later w0 b) (h2 : w0.heap.size ≤ g4) (h3 : w0.heap.size ≤ g5) (h4 : g4 ≠ g5) (h5 : Box b g4 32 z) (h6 : z.length = 10) (h7 : NoB z) (h8 : Box b g5 44 z') (h9 : z'.length = 17) (h10 : NoB z') : Fr11 w0 b g4 g5 := ⟨h1, h2, h3, h4, ⟨z, h5, h6, h7⟩, z', h8, h9, h10⟩
theorem okS_ready (p : Bool) : OkS (readyS p) := by cases p <;> exact okS_of _ (by decide)
theorem okS_zero : OkS (0, 0, 0) := okS_of _ (by decide)
/-- a call that gives an intent, beside a unit that stays -/
theorem give11 {f : FuncId} {us : Array Value} {b0 b W : World} {ab : Option Addr} {n cb : Nat} {aD : Option Addr} {k cD : Nat} {F : List UInt8} {D : List Drt} {p r l cc : Bool} {am am' : Option Addr} {cm m' cm' : Nat} {M M' : List Sns} {s : Sns} {T : Itt} (hm : Med b (.agg #[.slice ab n cb, .slice aD k cD]) n F D) (ha : At11 b0 b am cm M am' cm' M') (hl : m' = M'.length) (hW : Later b W)
    (hc : Calls Tryz.prog f us W fun e w' => ∃ i', e = .returned i' ∧ Later W w' ∧ IV w' i' T) :
    Calls Tryz.prog f us W fun e w' => ∃ y, e = .returned (.agg y.toArray) ∧ Later W w' ∧ PdI b0 n r cc am cm M ((F, D, p, l, M', s), T) (uc ab n cb aD k cD p r l cc am' m' cm' s) y w' := by
  refine hc.mono ?_
  rintro e w' ⟨i', rfl, hl', hv⟩
  obtain ⟨y, rfl, hy⟩ := hv.c
  exact ⟨y, rfl, hl', PdI.mk11 (hm.later (hW.trans hl')) (ha.later (hW.trans hl')) hl hy⟩
theorem none11 {s : Sns} {W : World} : Calls Tryz.prog 18 #[sval s] W fun e w' => ∃ i', e = .returned i' ∧ Later W w' ∧ IV w' i' (noneI s) := by
  refine (inone11_c s W).mono ?_
  rintro e w' ⟨rfl, hl⟩
  exact ⟨_, rfl, hl, IV.nil11 w' s⟩
set_option maxRecDepth 20000 in
set_option maxHeartbeats 4000000 in
theorem tell11_c {ab : Option Addr} {n cb : Nat} {aD : Option Addr} {k cD : Nat} {F : List UInt8} {D : List Drt} {p r l cc : Bool} {am : Option Addr} {m cm : Nat} {s : Sns} {M : List Sns} (nn : Int) (w : World) (hm : Med w (.agg #[.slice ab n cb, .slice aD k cD]) n F D) (hml : m = M.length) (hs : OkS s) (hn : In64 nn) :
    Calls Tryz.prog 20 #[uval ab n cb aD k cD p r l cc am m cm s, .int .i64 nn] w fun e w' => ∃ x y, e = .returned (.tuple #[.agg x.toArray, .agg y.toArray]) ∧ Later w w' ∧ PdI w n r cc am cm M ((F, D, p, l, M, (0, 0, 0)), inI (cutL (bytesL s) nn) (0, 0, 0)) x y w' := by
  have HM := hide hm
  have HML := hide hml
  have HS := hide hs
  have HN := hide hn
  clear hm hml hs hn
  have BU := hide (((Box.new w 32 (uc ab n cb aD k cD p r l cc am m cm s).toArray).alloc (.cells zU.toArray 32)).alloc (.cells zI.toArray 44))
  have BV : Hid (Box _ (w.heap.size + 1) 32 zU) := (Box.new' (w.alloc (.cells (uc ab n cb aD k cD p r l cc am m cm s).toArray 32)) 32 zU.toArray _ rfl _ (by simp)).alloc (.cells zI.toArray 44)
  have BI : Hid (Box _ (w.heap.size + 1 + 1) 44 zI) := Box.new' ((w.alloc (.cells (uc ab n cb aD k cD p r l cc am m cm s).toArray 32)).alloc (.cells zU.toArray 32)) 44 zI.toArray _ rfl _ (by simp)
  have LL := hide ((((Later.refl w).alloc (.cells (uc ab n cb aD k cD p r l cc am m cm s).toArray 32)).alloc (.cells zU.toArray 32)).alloc (.cells zI.toArray 44))
  replace HM := hide (HM.out.later LL.out)
  have x_0 := BU.out.cell 0
  have x_1 := BU.out.cell 1
  have x_2 := BU.out.cell 2
  have x_3 := BU.out.cell 3
  have x_4 := BU.out.cell 4
  have x_5 := BU.out.cell 5
  have x_6 := BU.out.cell 6
  have x_7 := BU.out.cell 7
  have x_8 := BU.out.cell 8
  have x_9 := BU.out.cell 9
  go_enter Tryz.func20, Tryz.ntmps20
  go_wp2_with fail
  clear x_0 x_1 x_2 x_3 x_4 x_5 x_6 x_7 x_8 x_9
  generalize ((w.alloc (.cells (uc ab n cb aD k cD p r l cc am m cm s).toArray 32)).alloc (.cells zU.toArray 32)).alloc (.cells zI.toArray 44) = w1 at *
  obtain ⟨gu, hgu⟩ : ∃ gu, gu = w.heap.size := ⟨_, rfl⟩
  obtain ⟨gv, hgv⟩ : ∃ gv, gv = w.heap.size + 1 := ⟨_, rfl⟩
  obtain ⟨gi, hgi⟩ : ∃ gi, gi = w.heap.size + 1 + 1 := ⟨_, rfl⟩
  rw [← hgi] at BI ⊢
  rw [← hgv] at BV ⊢
  rw [← hgu] at BU ⊢
  have HG : Hid (w.heap.size ≤ gu ∧ w.heap.size ≤ gv ∧ w.heap.size ≤ gi ∧ gu ≠ gv ∧ gu ≠ gi ∧ gv ≠ gi) := by rw [Hid]; omega
  clear hgu hgv hgi
  refine (sbytes_c s w1 HS.out).mono ?_
  rintro e w2 ⟨v2, rfl, hl, hb⟩
  replace BU := hide (BU.out.later hl)
  replace BV := hide (BV.out.later hl)
  replace BI := hide (BI.out.later hl)
  replace HM := hide (HM.out.later hl)
  replace LL := hide (LL.out.trans hl)
  have HB := hide hb
  clear hl hb
  go_wp2_with fail
  refine (cut7_c v2 (bytesL s) nn w2 HB.out (by rw [bytesL_length]; omega) HN.out).mono ?_
  rintro e w3 ⟨v3, rfl, hl, hb⟩
  replace BU := hide (BU.out.later hl)
  replace BV := hide (BV.out.later hl)
  replace BI := hide (BI.out.later hl)
  replace HM := hide (HM.out.later hl)
  replace LL := hide (LL.out.trans hl)
  replace HB := hide hb
  have HLn : Hid ((cutL (bytesL s) nn).length ≤ 1000000) := Nat.le_trans (cutL_len8 _ _).1 (by rw [bytesL_length]; omega)
  obtain ⟨L, hL⟩ : ∃ L, L = cutL (bytesL s) nn := ⟨_, rfl⟩
  rw [← hL] at HB HLn
  have HL := hide hL
  clear hL
  clear hl hb
  go_wp2_with (refine wpList_storeU rfl 30 (.tmp 13) (.tmp 12) rfl gu 7 rfl (sc (0, 0, 0)) rfl Tryz.info_sense (sc_one _) _ _ BU.out (by simp) ?_)
  intro w4 h4
  replace HB : Hid (Bs w4 v3 L) := by rw [h4.out]; exact HB.out.setNoB BU.out (uc_nob _ _ _ _ _ _ _ _ _ _ _ _ _ _) _ _
  have BUn : Hid (Box _ gu 32 (uc ab n cb aD k cD p r l cc am m cm (0, 0, 0))) := hide (by have h := BU.out.setCells (sc (0, 0, 0)) 7 (by simp); rw [← h4.out] at h; exact h)
  replace BV : Hid (Box _ gv 32 zU) := hide (by have h := BV.out.apart gu (by have := HG.out; omega) (sc (0, 0, 0)) 7; rw [← h4.out] at h; exact h)
  replace BI : Hid (Box _ gi 44 zI) := hide (by have h := BI.out.apart gu (by have := HG.out; omega) (sc (0, 0, 0)) 7; rw [← h4.out] at h; exact h)
  replace LL : Hid (Later w _) := hide (by have h := LL.out.setCells HG.out.1 (sc (0, 0, 0)) 7; rw [← h4.out] at h; exact h)
  replace HM : Hid (Med _ _ n _ _) := hide (by have h := HM.out.setNoB BU.out (uc_nob _ _ _ _ _ _ _ _ _ _ _ _ _ _) (sc (0, 0, 0)) 7; rw [← h4.out] at h; exact h)
  replace BU := BUn
  clear BUn h4
  go_wp2_with fail
  refine wp_region_tree [0, 1, 2] [3] [4, 5] (by kernel_rfl) (by kernel_rfl) (by kernel_rfl) (by kernel_rfl) ?_
  refine wpT_loadG rfl (by kernel_rfl) 32 (.tmp 2) rfl gu 0 rfl (uc ab n cb aD k cD p r l cc am m cm (0, 0, 0)) _ ((World.rangeAt_drew _ _ _ _).2 BU.out.range) Tryz.underlying32 rfl Tryz.info_unit ?_
  iterate 2 (refine wpT_mild rfl (fun K hK => ?_); go_simp; refine hK _ ?_; clear hK K)
  refine fin_one (bb := w) w gv gi ((Fr11.mk LL.out HG.out.2.1 HG.out.2.2.1 HG.out.2.2.2.2.2 BV.out rfl (uc_nob _ _ _ _ _ _ _ _ _ _ _ _ _ _) BI.out rfl (ic_nob _ _ _ _ _ _ _ _ _ _ _ _ _)).later (Later.refl w4).drew) 4 14 5 ⟨_, rfl, rfl, rfl, rfl⟩ ⟨_, rfl, rfl, rfl, rfl⟩ (uc ab n cb aD k cD p r l cc am m cm (0, 0, 0)) rfl rfl rfl (by simp [put_size]) (by decide) 21 (Plain.of (by kernel_rfl)) [.tmp 15, .tmp 16] _ [v3, sval (0, 0, 0)] rfl ⟨_, rfl, rfl, rfl, rfl⟩ (by kernel_rfl)
    (fun W hW => give11 (b := w4) (HM.out) At11.same HML.out ((Later.refl w4).drew.trans hW) (iin11 v3 L (0, 0, 0) W (HB.out.later ((Later.refl w4).drew.trans hW)) okS_zero HLn.out)) ?_
  intro y W hLW hB4 hB5 hPW
  have HLW := hide hLW
  have HB4 := hide hB4
  have HB5 := hide hB5
  have HPW := hide hPW
  clear hLW hB4 hB5 hPW
  go_wp2
  exact bodyPost_ret (results_cell_cell' rfl _ _ _ gv 0 gi 0 rfl rfl _ _ (load_unit HB4.out rfl) (load_intent HB5.out HPW.out.one.2.1)) rfl ⟨_, y, rfl, HLW.out, (by rw [← HL.out]; exact HPW.out)⟩
set_option maxRecDepth 20000 in
set_option maxHeartbeats 4000000 in
theorem keep11_c {ab : Option Addr} {n cb : Nat} {aD : Option Addr} {k cD : Nat} {F : List UInt8} {D : List Drt} {p r l cc : Bool} {am : Option Addr} {m cm : Nat} {s : Sns} {M : List Sns} (on : Bool) (w : World) (hm : Med w (.agg #[.slice ab n cb, .slice aD k cD]) n F D) (hml : m = M.length) (hn : n ≤ 100) (hD : D.length ≤ 100) :
    Calls Tryz.prog 27 #[uval ab n cb aD k cD p r l cc am m cm s, .bool on] w fun e w' => ∃ x y, e = .returned (.tuple #[.agg x.toArray, .agg y.toArray]) ∧ Later w w' ∧ PdI w n r cc am cm M ((F, D, p, kpL p on l, M, s), noneI (readyS p)) x y w' := by
  have HM := hide hm
  have HML := hide hml
  have HN := hide (And.intro hn hD)
  clear hm hml hn hD
  have BU := hide (((Box.new w 32 (uc ab n cb aD k cD p r l cc am m cm s).toArray).alloc (.cells zU.toArray 32)).alloc (.cells zI.toArray 44))
  have BV : Hid (Box _ (w.heap.size + 1) 32 zU) := (Box.new' (w.alloc (.cells (uc ab n cb aD k cD p r l cc am m cm s).toArray 32)) 32 zU.toArray _ rfl _ (by simp)).alloc (.cells zI.toArray 44)
  have BI : Hid (Box _ (w.heap.size + 1 + 1) 44 zI) := Box.new' ((w.alloc (.cells (uc ab n cb aD k cD p r l cc am m cm s).toArray 32)).alloc (.cells zU.toArray 32)) 44 zI.toArray _ rfl _ (by simp)
  have LL := hide ((((Later.refl w).alloc (.cells (uc ab n cb aD k cD p r l cc am m cm s).toArray 32)).alloc (.cells zU.toArray 32)).alloc (.cells zI.toArray 44))
  replace HM := hide (HM.out.later LL.out)
  have x_0 := BU.out.cell 0
  have x_1 := BU.out.cell 1
  have x_2 := BU.out.cell 2
  have x_3 := BU.out.cell 3
  have x_4 := BU.out.cell 4
  have x_5 := BU.out.cell 5
  have x_6 := BU.out.cell 6
  have x_7 := BU.out.cell 7
  have x_8 := BU.out.cell 8
  have x_9 := BU.out.cell 9
  go_enter Tryz.func27, Tryz.ntmps27
  go_wp2_with fail
  clear x_0 x_1 x_2 x_3 x_4 x_5 x_6 x_7 x_8 x_9
  generalize ((w.alloc (.cells (uc ab n cb aD k cD p r l cc am m cm s).toArray 32)).alloc (.cells zU.toArray 32)).alloc (.cells zI.toArray 44) = w1 at *
  obtain ⟨gu, hgu⟩ : ∃ gu, gu = w.heap.size := ⟨_, rfl⟩
  obtain ⟨gv, hgv⟩ : ∃ gv, gv = w.heap.size + 1 := ⟨_, rfl⟩
  obtain ⟨gi, hgi⟩ : ∃ gi, gi = w.heap.size + 1 + 1 := ⟨_, rfl⟩
  rw [← hgi] at BI ⊢
  rw [← hgv] at BV ⊢
  rw [← hgu] at BU ⊢
  have HG : Hid (w.heap.size ≤ gu ∧ w.heap.size ≤ gv ∧ w.heap.size ≤ gi ∧ gu ≠ gv ∧ gu ≠ gi ∧ gv ≠ gi) := by rw [Hid]; omega
  clear hgu hgv hgi
  refine (skeep_c _ n F D p r l on w1 ⟨ab, cb, aD, k, cD, rfl, HM.out⟩ HN.out.1 HN.out.2).mono ?_
  rintro e w2 ⟨v2, rfl, hl, hs2⟩
  obtain ⟨b3, f3, b6, j6, f6, rfl, hm2⟩ := hs2
  obtain ⟨l2, hl2⟩ : ∃ l2, l2 = kpL p on l := ⟨_, rfl⟩
  rw [show (if p = true then on else l) = l2 from hl2.symm]
  have HL := hide hl2
  clear hl2
  replace BU := hide (BU.out.later hl)
  replace BV := hide (BV.out.later hl)
  replace BI := hide (BI.out.later hl)
  replace HM := hide (HM.out.later hl)
  replace LL := hide (LL.out.trans hl)
  replace HM := hide hm2
  clear hl hm2
  go_wp2_with (refine wpList_newTS rfl rfl rfl rfl rfl rfl 6 7 rfl rfl (by simp) (by simp) (by decide) (.tmp 13) (.tmp 14) (by simp) (by simp) (by simp) (by simp) rfl rfl rfl rfl b3 b6 n f3 j6 f6 p r l2 (readyS p) rfl rfl ?_)
  intro g6 g7 w3 hB6 hB7 hl hg
  replace BU := hide (BU.out.later hl)
  replace BV := hide (BV.out.later hl)
  replace BI := hide (BI.out.later hl)
  replace HM := hide (HM.out.later hl)
  replace LL := hide (LL.out.trans hl)
  have B6 := hide hB6
  have B7 := hide hB7
  have HG7 : Hid (g7 ≠ gu) := box_ne B7.out BU.out (by decide)
  clear hB6 hB7 hl hg
  have d0 := B6.out.cell 0
  have d1 := B6.out.cell 1
  have d2 := B6.out.cell 2
  have d3 := B6.out.cell 3
  have d4 := B6.out.cell 4
  go_wp2_with (refine wpList_storeU rfl 27 (.tmp 16) (.tmp 15) rfl gu 0 rfl (tc (.slice b3 n f3) (.slice b6 j6 f6) p r l2) rfl Tryz.info_slot (tc_one _ _ _ _ _ _ _ _ _) _ _ BU.out (by simp) ?_)
  intro w4 h4
  clear d0 d1 d2 d3 d4 B6
  replace B7 : Hid (Box w4 g7 30 (sc (readyS p))) := by rw [h4.out]; exact B7.out.apart gu HG7.out _ _
  have BUn : Hid (Box _ gu 32 (uc b3 n f3 b6 j6 f6 p r l2 cc am m cm s)) := hide (by have h := BU.out.setCells (tc (.slice b3 n f3) (.slice b6 j6 f6) p r l2) 0 (by simp); rw [← h4.out] at h; exact h)
  replace BV : Hid (Box _ gv 32 zU) := hide (by have h := BV.out.apart gu (by have := HG.out; omega) (tc (.slice b3 n f3) (.slice b6 j6 f6) p r l2) 0; rw [← h4.out] at h; exact h)
  replace BI : Hid (Box _ gi 44 zI) := hide (by have h := BI.out.apart gu (by have := HG.out; omega) (tc (.slice b3 n f3) (.slice b6 j6 f6) p r l2) 0; rw [← h4.out] at h; exact h)
  replace LL : Hid (Later w _) := hide (by have h := LL.out.setCells HG.out.1 (tc (.slice b3 n f3) (.slice b6 j6 f6) p r l2) 0; rw [← h4.out] at h; exact h)
  replace HM : Hid (Med _ _ n _ _) := hide (by have h := HM.out.setNoB BU.out (uc_nob _ _ _ _ _ _ _ _ _ _ _ _ _ _) (tc (.slice b3 n f3) (.slice b6 j6 f6) p r l2) 0; rw [← h4.out] at h; exact h)
  replace BU := BUn
  clear BUn h4
  go_wp2_with fail
  refine wp_region_tree [0, 1] [2] [3, 4] (by kernel_rfl) (by kernel_rfl) (by kernel_rfl) (by kernel_rfl) ?_
  refine wpT_loadG rfl (by kernel_rfl) 32 (.tmp 2) rfl gu 0 rfl (uc b3 n f3 b6 j6 f6 p r l2 cc am m cm s) _ ((World.rangeAt_drew _ _ _ _).2 BU.out.range) Tryz.underlying32 rfl Tryz.info_unit ?_
  refine wpT_loadG rfl (by kernel_rfl) 30 (.tmp 7) rfl g7 0 rfl (sc (readyS p)) _ ((World.rangeAt_drew _ _ _ _).2 B7.out.range) Tryz.underlying30 rfl Tryz.info_sense ?_
  refine fin_one (bb := w) w gv gi ((Fr11.mk LL.out HG.out.2.1 HG.out.2.2.1 HG.out.2.2.2.2.2 BV.out rfl (uc_nob _ _ _ _ _ _ _ _ _ _ _ _ _ _) BI.out rfl (ic_nob _ _ _ _ _ _ _ _ _ _ _ _ _)).later (Later.refl w4).drew) 4 17 5 ⟨_, rfl, rfl, rfl, rfl⟩ ⟨_, rfl, rfl, rfl, rfl⟩ (uc b3 n f3 b6 j6 f6 p r l2 cc am m cm s) rfl rfl rfl (by simp [put_size]) (by decide) 18 (Plain.of (by kernel_rfl)) [.tmp 18] _ [sval (readyS p)] rfl ⟨_, rfl, rfl, rfl, rfl⟩ (by kernel_rfl)
    (fun W hW => give11 (b := w4) (HM.out) At11.same HML.out ((Later.refl w4).drew.trans hW) none11) ?_
  intro y W hLW hB4 hB5 hPW
  have HLW := hide hLW
  have HB4 := hide hB4
  have HB5 := hide hB5
  have HPW := hide hPW
  clear hLW hB4 hB5 hPW
  go_wp2
  exact bodyPost_ret (results_cell_cell' rfl _ _ _ gv 0 gi 0 rfl rfl _ _ (load_unit HB4.out rfl) (load_intent HB5.out HPW.out.one.2.1)) rfl ⟨_, y, rfl, HLW.out, (by rw [← HL.out]; exact HPW.out)⟩
end Go.Proofs.YtfakboehmcimpaaGreat
