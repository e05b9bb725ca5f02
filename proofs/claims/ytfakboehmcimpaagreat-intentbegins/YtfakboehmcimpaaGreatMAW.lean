import Derived.Test.YtfakboehmcimpaaGreatMAU
import Derived.Test.YtfakboehmcimpaaGreatMAV
import Derived.Test.YtfakboehmcimpaaGreatMAT
import Derived.Test.YtfakboehmcimpaaGreatMAL
import Derived.Test.YtfakboehmcimpaaGreatMAQ
namespace Go.Proofs.YtfakboehmcimpaaGreat
open Go.ChangeShapes Go.WideShapes Go.ChangeAt Go.RowKit
set_option linter.unusedVariables false
set_option maxRecDepth 4000
set_option linter.unusedSimpArgs false
/-! The landed job: who works at it has the unit and the job in new memory. -/
set_option maxHeartbeats 1000000 in
theorem clone3_c {v : Value} {n : Nat} {xs : List Value} (w : World) (h : Rw 3 w v n xs) (h1 : ∀ q ∈ xs, q.oneCell' = true) (hn : n ≤ 1000000) :
    Calls Tryz.prog 52 #[v] w fun e w' => ∃ v', e = .returned v' ∧ Later w w' ∧ w'.ownsRow w.heap.size 30 3 v' n xs ∧ ∀ k c, v = .slice none k c → v' = .slice none 0 0 := by
  have hown : Hid ((w.alloc (.cells #[] 30)).ownsRow w.heap.size 30 3 (.slice (some ⟨w.heap.size, 0, none⟩) 0 0) 0 []) := World.ownsRow_lit w #[] 0 (Nat.le_refl _) (by simp [maxLen]) rfl
  have hb : Hid (Below w.heap.size w (w.alloc (.cells #[] 30))) := (Below.refl _ _).alloc (Nat.le_refl _) _
  have hr := hide (h.later ((Later.refl w).alloc (.cells #[] 30)))
  have H1 := hide h1
  obtain ⟨hl0, _, a, cap, rfl, _, h0⟩ := h
  cases a with
  | none =>
    obtain rfl : n = 0 := by
      rcases h0 with h0 | ⟨b, off, e, _⟩
      · exact h0
      · cases e
    have hx : xs = [] := List.eq_nil_of_length_eq_zero (by rw [hl0])
    rw [hx]
    clear hown hb hr h0 hx hl0 h1 H1
    have hq := slice_is_nil Tryz.underlying28 none 0 cap w
    go_enter Tryz.func52, Tryz.ntmps52
    go_wp2
    go_ret
    exact ⟨_, rfl, Later.refl w, World.ownsRow_nil w _ _ _, fun _ _ _ => rfl⟩
  | some ad =>
    clear h0 hl0 h1
    have hq := slice_is_nil Tryz.underlying28 (some ad) n cap w
    go_enter Tryz.func52, Tryz.ntmps52
    go_wp2_with (at_builtin; refine wpList_append_rw Tryz.elem_sense Tryz.underlying28 rfl (by decide) rfl (.tmp 5) (.tmp 6) rfl w.heap.size _ 0 [] rfl hown.out _ n xs rfl hr.out H1.out ?c1 ?c2 ?c3 w hb.out ?_)
    case c1 => omega
    case c2 => unfold maxLen; omega
    case c3 => simp
    intro v' w' ho hbl _
    go_wp2
    go_ret
    exact ⟨_, rfl, hbl, by simpa using ho, fun _ _ e => by cases e⟩
set_option maxHeartbeats 1000000 in
theorem clone1_c {v : Value} {n : Nat} {xs : List Value} (w : World) (h : Rw 1 w v n xs) (h1 : ∀ q ∈ xs, q.oneCell' = true) (hn : n ≤ 1000000) :
    Calls Tryz.prog 60 #[v] w fun e w' => ∃ v', e = .returned v' ∧ Later w w' ∧ w'.ownsRow w.heap.size 5 1 v' n xs ∧ ∀ k c, v = .slice none k c → v' = .slice none 0 0 := by
  have hown : Hid ((w.alloc (.cells #[] 5)).ownsRow w.heap.size 5 1 (.slice (some ⟨w.heap.size, 0, none⟩) 0 0) 0 []) := World.ownsRow_lit w #[] 0 (Nat.le_refl _) (by simp [maxLen]) rfl
  have hb : Hid (Below w.heap.size w (w.alloc (.cells #[] 5))) := (Below.refl _ _).alloc (Nat.le_refl _) _
  have hr := hide (h.later ((Later.refl w).alloc (.cells #[] 5)))
  have H1 := hide h1
  obtain ⟨hl0, _, a, cap, rfl, _, h0⟩ := h
  cases a with
  | none =>
    obtain rfl : n = 0 := by
      rcases h0 with h0 | ⟨b, off, e, _⟩
      · exact h0
      · cases e
    have hx : xs = [] := List.eq_nil_of_length_eq_zero (by rw [hl0])
    rw [hx]
    clear hown hb hr h0 hx hl0 h1 H1
    have hq := slice_is_nil Tryz.underlying40 none 0 cap w
    go_enter Tryz.func60, Tryz.ntmps60
    go_wp2
    go_ret
    exact ⟨_, rfl, Later.refl w, World.ownsRow_nil w _ _ _, fun _ _ _ => rfl⟩
  | some ad =>
    clear h0 hl0 h1
    have hq := slice_is_nil Tryz.underlying40 (some ad) n cap w
    go_enter Tryz.func60, Tryz.ntmps60
    go_wp2_with (at_builtin; refine wpList_append_rw Tryz.elem_u8 Tryz.underlying40 rfl (by decide) rfl (.tmp 5) (.tmp 6) rfl w.heap.size _ 0 [] rfl hown.out _ n xs rfl hr.out H1.out ?c1 ?c2 ?c3 w hb.out ?_)
    case c1 => omega
    case c2 => unfold maxLen; omega
    case c3 => simp
    intro v' w' ho hbl _
    go_wp2
    go_ret
    exact ⟨_, rfl, hbl, by simpa using ho, fun _ _ e => by cases e⟩
theorem Tryz.info1_blocks10 : (Tryz.prog.info? 22).map (·.size) = some 1 := by kernel_rfl
theorem Tryz.info1_dirty10 : (Tryz.prog.info? 23).map (·.size) = some 1 := by kernel_rfl
theorem Tryz.info1_sns10 : (Tryz.prog.info? 28).map (·.size) = some 1 := by kernel_rfl
theorem owns_setBox10 {W : World} {B n sz : Nat} {e : TypeId} {v : Value} {xs : List Value} (h : W.ownsRow B e sz v n xs) {g : Nat} {t : TypeId} {cs : List Value} (hB : Box W g t cs) (ht : t ≠ e) (vs : List Value) (o : Nat) : (W.setCells g o vs).ownsRow B e sz v n xs :=
  owns_kept h fun k hk => heap_setCells_other W g k (fun e' => box_ne_own hB h ht k hk e'.symm) _ _
end Go.Proofs.YtfakboehmcimpaaGreat

namespace Go.Proofs.YtfakboehmcimpaaGreat
open Go.ChangeShapes Go.WideShapes Go.ChangeAt Go.RowKit
set_option linter.unusedVariables false
set_option maxRecDepth 4000
set_option linter.unusedSimpArgs false
/-! The landed intent: None, In, out. -/
set_option maxHeartbeats 1000000 in
theorem inone11_c (s : Sns) (w : World) : Calls Tryz.prog 18 #[sval s] w fun e w' => e = .returned (ival 0 0 none 0 0 (0, 0, 0, 0, 0) 0 0 none 0 0 (0, 0, 0) s) ∧ Later w w' := by
  have BX := hide ((Box.new w 30 #[.int .i64 s.1, .int .i64 s.2.1, .int .i64 s.2.2]).alloc (.cells zI.toArray 44))
  have BI : Hid (Box _ (w.heap.size + 1) 44 zI) := Box.new' (w.alloc (.cells #[.int .i64 s.1, .int .i64 s.2.1, .int .i64 s.2.2] 30)) 44 zI.toArray _ rfl _ (by simp)
  have LL := hide (((Later.refl w).alloc (.cells #[.int .i64 s.1, .int .i64 s.2.1, .int .i64 s.2.2] 30)).alloc (.cells zI.toArray 44))
  have x0 := BX.out.cell 0
  have x1 := BX.out.cell 1
  have x2 := BX.out.cell 2
  go_enter Tryz.func18, Tryz.ntmps18
  go_wp2_with (refine wpList_storeU rfl 44 (.tmp 2) (.tmp 4) rfl (w.heap.size + 1) 0 rfl (ic 0 0 none 0 0 (0, 0, 0, 0, 0) 0 0 none 0 0 (0, 0, 0) s) rfl Tryz.info_intent (ic_one _ _ _ _ _ _ _ _ _ _ _ _ _) _ _ BI.out (by simp) ?_)
  intro wz hz
  have BZ : Hid (Box wz (w.heap.size + 1) 44 (ic 0 0 none 0 0 (0, 0, 0, 0, 0) 0 0 none 0 0 (0, 0, 0) s)) := by rw [hz.out]; exact BI.out.all _ rfl
  have LZ : Hid (Later w wz) := by rw [hz.out]; exact LL.out.setCells (by omega) _ _
  clear hz
  go_wp2
  exact bodyPost_ret (results_cell1 rfl _ _ _ (w.heap.size + 1) 0 rfl (ival 0 0 none 0 0 (0, 0, 0, 0, 0) 0 0 none 0 0 (0, 0, 0) s) (load_intent BZ.out rfl)) rfl ⟨rfl, LZ.out⟩
/-- bytes as they were, in new memory -/
theorem clone1m_c {v : Value} {n : Nat} {xs : List Value} (w : World) (h : Rw 1 w v n xs) (h1 : ∀ q ∈ xs, q.oneCell' = true) (hn : n ≤ 1000000) :
    Calls Tryz.prog 60 #[v] w fun e w' => ∃ v', e = .returned v' ∧ Later w w' ∧ w'.ownsRow w.heap.size 5 1 v' n xs := (clone1_c w h h1 hn).mono fun e w' ⟨v', h1, h2, h3, _⟩ => ⟨v', h1, h2, h3⟩
set_option maxRecDepth 20000 in
set_option maxHeartbeats 2000000 in
theorem iin11 : IIn11 := by
  intro v L s w h hok hln
  have h2 := h
  obtain ⟨hm, ax, cx, rfl, hc, -⟩ := h2
  have HB := hide h
  have HO := hide hok
  have HI : Hid (inI L s = if s = (0, 0, 0) ∧ L.length ≠ 0 then (1, (L.length : Int), L, (0, 0, 0, 0, 0), 0, (0, 0, 0)) else noneI s) := rfl
  obtain ⟨k, hk⟩ : ∃ k, k = L.length := ⟨_, rfl⟩
  have HK := hide hk
  rw [← hk] at HB HI hm hln ⊢
  have hk2 : k ≤ 9223372036854775807 := by unfold maxLen at hm; omega
  clear h hm hc hk hok
  have BX := hide ((Box.new w 30 #[.int .i64 s.1, .int .i64 s.2.1, .int .i64 s.2.2]).alloc (.cells zI.toArray 44))
  have BI : Hid (Box _ (w.heap.size + 1) 44 zI) := Box.new' (w.alloc (.cells #[.int .i64 s.1, .int .i64 s.2.1, .int .i64 s.2.2] 30)) 44 zI.toArray _ rfl _ (by simp)
  have LL := hide (((Later.refl w).alloc (.cells #[.int .i64 s.1, .int .i64 s.2.1, .int .i64 s.2.2] 30)).alloc (.cells zI.toArray 44))
  have x0 := BX.out.cell 0
  have x1 := BX.out.cell 1
  have x2 := BX.out.cell 2
  go_enter Tryz.func21, Tryz.ntmps21
  by_cases h0 : k = 0
  · have e0 : ((k : Int) == (0 : Int)) = true := by simp; omega
    replace HI : Hid (inI L s = noneI s) := by rw [Hid, HI.out, if_neg (fun h => h.2 h0)]
    clear h0
    go_wp2_with fail
    refine (inone11_c s _).mono ?_
    rintro e w2 ⟨rfl, hl⟩
    replace BI := hide (BI.out.later hl)
    replace LL := hide (LL.out.trans hl)
    clear hl x0 x1 x2
    go_wp2_with (refine wpList_storeU rfl 44 (.tmp 4) (.tmp 14) rfl (w.heap.size + 1) 0 rfl (ic 0 0 none 0 0 (0, 0, 0, 0, 0) 0 0 none 0 0 (0, 0, 0) s) rfl Tryz.info_intent (ic_one _ _ _ _ _ _ _ _ _ _ _ _ _) _ _ BI.out (by simp) ?_)
    intro wz hz
    have BZ : Hid (Box wz (w.heap.size + 1) 44 (ic 0 0 none 0 0 (0, 0, 0, 0, 0) 0 0 none 0 0 (0, 0, 0) s)) := by rw [hz.out]; exact BI.out.all _ rfl
    have LZ : Hid (Later w wz) := by rw [hz.out]; exact LL.out.setCells (by omega) _ _
    clear hz
    go_wp2
    refine bodyPost_ret (results_cell1 rfl _ _ _ (w.heap.size + 1) 0 rfl (ival 0 0 none 0 0 (0, 0, 0, 0, 0) 0 0 none 0 0 (0, 0, 0) s) (load_intent BZ.out rfl)) rfl ⟨_, rfl, LZ.out, ?_⟩
    rw [HI.out]
    exact IV.nil11 _ s
  · have e0 : ((k : Int) == (0 : Int)) = false := by simp; omega
    go_wp2_with fail
    refine (sgood_c s _ HO.out).mono ?_
    rintro e w1 ⟨rfl, hl⟩
    replace BX := hide (BX.out.later hl)
    replace BI := hide (BI.out.later hl)
    replace LL := hide (LL.out.trans hl)
    clear hl x0 x1 x2
    have x0 := BX.out.cell 0
    have x1 := BX.out.cell 1
    have x2 := BX.out.cell 2
    by_cases hs : s = (0, 0, 0)
    · have es : (s == (0, 0, 0)) = true := by simp [hs]
      replace HI : Hid (inI L s = (1, (k : Int), L, (0, 0, 0, 0, 0), 0, (0, 0, 0))) := by rw [Hid, HI.out, if_pos ⟨hs, h0⟩]
      rw [es]
      clear hs h0 es
      go_wp2_with fail
      refine (clone1m_c _ (by have := (HB.out.later LL.out).rw; rwa [← HK.out] at this) (bv_one L) hln).mono ?_
      rintro e w2 ⟨v2, rfl, hl, ho⟩
      obtain ⟨a2, c2, rfl⟩ := (Rw.of_owns ho).shape
      have O := hide ho
      replace BI := hide (BI.out.later hl)
      replace LL := hide (LL.out.trans hl)
      clear hl x0 x1 x2 ho
      go_wp2_with (refine wpList_storeU rfl 44 (.tmp 4) (.tmp 19) rfl (w.heap.size + 1) 0 rfl (ic 1 (k : Int) a2 k c2 (0, 0, 0, 0, 0) 0 0 none 0 0 (0, 0, 0) (0, 0, 0)) rfl Tryz.info_intent (ic_one _ _ _ _ _ _ _ _ _ _ _ _ _) _ _ BI.out (by simp) ?_)
      intro wz hz
      have BZ : Hid (Box wz (w.heap.size + 1) 44 (ic 1 (k : Int) a2 k c2 (0, 0, 0, 0, 0) 0 0 none 0 0 (0, 0, 0) (0, 0, 0))) := by rw [hz.out]; exact BI.out.all _ rfl
      have LZ : Hid (Later w wz) := by rw [hz.out]; exact LL.out.setCells (by omega) _ _
      have BB : Hid (Bs wz (.slice a2 k c2) L) := by
        have h := ((Rw.of_owns O.out).bs.1).setNoB BI.out (ic_nob _ _ _ _ _ _ _ _ _ _ _ _ _) (ic 1 (k : Int) a2 k c2 (0, 0, 0, 0, 0) 0 0 none 0 0 (0, 0, 0) (0, 0, 0)) 0
        rw [← hz.out] at h
        exact h
      clear hz
      go_wp2
      refine bodyPost_ret (results_cell1 rfl _ _ _ (w.heap.size + 1) 0 rfl (ival 1 (k : Int) a2 k c2 (0, 0, 0, 0, 0) 0 0 none 0 0 (0, 0, 0) (0, 0, 0)) (load_intent BZ.out rfl)) rfl ⟨_, rfl, LZ.out, ?_⟩
      rw [HI.out]
      refine ⟨a2, c2, none, 0, by rw [HK.out], ?_⟩
      have := BB.out
      rwa [HK.out] at this
    · have es : (s == (0, 0, 0)) = false := by simpa using hs
      replace HI : Hid (inI L s = noneI s) := by rw [Hid, HI.out, if_neg (fun h => hs h.1)]
      rw [es]
      clear hs h0 es
      go_wp2_with fail
      refine (inone11_c s _).mono ?_
      rintro e w2 ⟨rfl, hl⟩
      replace BI := hide (BI.out.later hl)
      replace LL := hide (LL.out.trans hl)
      clear hl x0 x1 x2
      go_wp2_with (refine wpList_storeU rfl 44 (.tmp 4) (.tmp 14) rfl (w.heap.size + 1) 0 rfl (ic 0 0 none 0 0 (0, 0, 0, 0, 0) 0 0 none 0 0 (0, 0, 0) s) rfl Tryz.info_intent (ic_one _ _ _ _ _ _ _ _ _ _ _ _ _) _ _ BI.out (by simp) ?_)
      intro wz hz
      have BZ : Hid (Box wz (w.heap.size + 1) 44 (ic 0 0 none 0 0 (0, 0, 0, 0, 0) 0 0 none 0 0 (0, 0, 0) s)) := by rw [hz.out]; exact BI.out.all _ rfl
      have LZ : Hid (Later w wz) := by rw [hz.out]; exact LL.out.setCells (by omega) _ _
      clear hz
      go_wp2
      refine bodyPost_ret (results_cell1 rfl _ _ _ (w.heap.size + 1) 0 rfl (ival 0 0 none 0 0 (0, 0, 0, 0, 0) 0 0 none 0 0 (0, 0, 0) s) (load_intent BZ.out rfl)) rfl ⟨_, rfl, LZ.out, ?_⟩
      rw [HI.out]
      exact IV.nil11 _ s
end Go.Proofs.YtfakboehmcimpaaGreat

namespace Go.Proofs.YtfakboehmcimpaaGreat
open Go.ChangeShapes Go.WideShapes Go.ChangeAt Go.RowKit
set_option linter.unusedVariables false
set_option maxRecDepth 4000
set_option linter.unusedSimpArgs false
/-! 'return u, f(..)' in a region that draws its order: a unit, and an intent that a call gives. -/
def Fr11 (w0 b : World) (g4 g5 : Nat) : Prop := Later w0 b ∧ w0.heap.size ≤ g4 ∧ w0.heap.size ≤ g5 ∧ g4 ≠ g5 ∧ (∃ z, Box b g4 32 z ∧ z.length = 10 ∧ NoB z) ∧ (∃ z, Box b g5 44 z ∧ z.length = 17 ∧ NoB z)
theorem Fr11.later {w0 b c : World} {g4 g5 : Nat} (h : Fr11 w0 b g4 g5) (hl : Later b c) : Fr11 w0 c g4 g5 := by
  obtain ⟨h1, h2, h3, h4, ⟨z, h5, h6, h7⟩, z', h8, h9, h10⟩ := h
  exact ⟨h1.trans hl, h2, h3, h4, ⟨z, h5.later hl, h6, h7⟩, z', h8.later hl, h9, h10⟩
/-- the two stores -/
theorem fin_put {ops : Array Oper} {Q : Exit → Act → World → Prop} {a : Act} {b : World} {sU sI : Nat} {dI : Tmp} {bb : World} {n : Nat} {r cc : Bool} {am : Option Addr} {cm : Nat} {M : List Sns} {T : Utt × Itt} (w0 : World) (g4 g5 : Nat) (hF : Fr11 w0 b g4 g5) (pU vU pI : Tmp) (hsU : OpAt ops sU none (.store 32 (.tmp pU) (.tmp vU))) (hsI : OpAt ops sI none (.store 44 (.tmp pI) (.tmp dI))) (cu : List Value) (eU : a.eval (.tmp pU) = .pointer (some ⟨g4, 0, none⟩)) (eV : a.eval (.tmp vU) = .agg cu.toArray) (eI : a.eval (.tmp pI) = .pointer (some ⟨g5, 0, none⟩)) (y : List Value) (eJ : a.eval (.tmp dI) = .agg y.toArray) (hP : PdI bb n r cc am cm M T cu y b)
    (h : ∀ W, Later w0 W → Box W g4 32 cu → Box W g5 44 y → PdI bb n r cc am cm M T cu y W → Q .normal a W) : wpL Tryz.prog ops Q [sU, sI] a b := by
  obtain ⟨oU, u1, u2, u3, u4⟩ := hsU
  obtain ⟨oI, i1, i2, i3, i4⟩ := hsI
  obtain ⟨h1, h2, h3, h4, ⟨z, h5, h6, h7⟩, z', h8, h9, h10⟩ := hF
  obtain ⟨⟨l1, n1, c1⟩, l2, n2, c2⟩ := hP.one
  refine wpL_store u1 (by simp [Region.wanted, u2]) 32 (.tmp pU) (.tmp vU) u4 g4 0 cu eU eV (h5.there 0 cu.length (by omega)) (by rw [Tryz.info_unit, l1]) c1 ?_
  have P1 := hP.set (.inl rfl) h5 h7 cu
  have B4 := h5.all cu (by omega)
  have B5 := h8.apart g4 (fun e => h4 e.symm) cu 0
  have L1 := h1.setCells h2 cu 0
  rw [u3]
  change wpL Tryz.prog ops Q [sI] a _
  refine wpL_store i1 (by simp [Region.wanted, i2]) 44 (.tmp pI) (.tmp dI) i4 g5 0 y eI eJ (B5.there 0 y.length (by omega)) (by rw [Tryz.info_intent, l2]) c2 ?_
  rw [i3]
  change wpL Tryz.prog ops Q [] a _
  exact wpL_nil (h _ (L1.setCells h3 y 0) (B4.apart g5 h4 y 0) (B5.all y (by omega)) (P1.set (.inr rfl) B5 h10 y))
/-- one call -/
theorem fin_one {ops : Array Oper} {Q : Exit → Act → World → Prop} {a : Act} {b : World} {sU sI : Nat} {dI : Tmp} {bb : World} {n : Nat} {r cc : Bool} {am : Option Addr} {cm : Nat} {M : List Sns} {T : Utt × Itt} (w0 : World) (g4 g5 : Nat) (hF : Fr11 w0 b g4 g5) (pU vU pI : Tmp) (hsU : OpAt ops sU none (.store 32 (.tmp pU) (.tmp vU))) (hsI : OpAt ops sI none (.store 44 (.tmp pI) (.tmp dI))) (cu : List Value) (eU : a.eval (.tmp pU) = .pointer (some ⟨g4, 0, none⟩)) (eV : a.eval (.tmp vU) = .agg cu.toArray) (eI : a.eval (.tmp pI) = .pointer (some ⟨g5, 0, none⟩)) (hsz : dI < a.tmps.size) (hne : dI ≠ pU ∧ dI ≠ vU ∧ dI ≠ pI)
    {c : Nat} (f : FuncId) (hpl : Plain Tryz.prog f) (xs : List Operand) (ts : Array TypeId) (us : List Value) (hx : xs.map a.eval = us) (hc : OpAt ops c (some dI) (.call { callee := .value (.func f), args := xs.toArray, argTypes := ts })) (hd : dep .any ops c c = false)
    (hcall : ∀ W, Later b W → Calls Tryz.prog f us.toArray W fun e w' => ∃ y, e = .returned (.agg y.toArray) ∧ Later W w' ∧ PdI bb n r cc am cm M T cu y w')
    (h : ∀ y W, Later w0 W → Box W g4 32 cu → Box W g5 44 y → PdI bb n r cc am cm M T cu y W → Q .normal (a.put (some dI) (.agg y.toArray)) W) : wpT Tryz.prog ops Q [sU, sI] [c] [] a b := by
  refine wpT_one (fun v W => ∃ y, v = .agg y.toArray ∧ PdI bb n r cc am cm M T cu y W) hd (by rintro v w w' hl ⟨y, e, hy⟩; exact ⟨y, e, hy.later hl⟩) (fun W hW => lVal_callAt hc hpl us hx ((hcall W hW).mono ?_)) ?_
  · rintro e w' ⟨y, rfl, hl, hy⟩
    exact ⟨_, rfl, hl, y, rfl, hy⟩
  · rintro v W hW ⟨y, rfl, hy⟩
    rw [hc.dst]
    exact fin_put w0 g4 g5 (hF.later hW) pU vU pI hsU hsI cu (by rw [eval_put_ne hne.1.symm, eU]) (by rw [eval_put_ne hne.2.1.symm, eV]) (by rw [eval_put_ne hne.2.2.symm, eI]) y (eval_same hsz) hy (fun W' q1 q2 q3 q4 => h y W' q1 q2 q3 q4)
/-- two operations, the second one behind the first -/
theorem wpT_two {P : Program} {ops : Array Oper} {Q : Exit → Act → World → Prop} {τ : List Nat} {a : Act} {b : World} (c1 c2 : Nat) (hne : c1 ≠ c2) (R1 : Value → World → Prop) (R2 : Value → Value → World → Prop) (hd : ([c1, c2].all fun i => ([c1, c2].filter fun k => dep .any ops i k) == (if i = c2 then [c1] else [])) = true)
    (s1 : ∀ v w w', Later w w' → R1 v w → R1 v w') (s2 : ∀ v u w w', Later w w' → R2 v u w → R2 v u w') (h1 : ∀ W, Later b W → lVal P ops c1 R1 a W) (h2 : ∀ v W, Later b W → R1 v W → lVal P ops c2 (R2 v) (a.put (dstOf ops c1) v) W)
    (h : ∀ v u W, Later b W → R2 v u W → wpL P ops Q τ ((a.put (dstOf ops c1) v).put (dstOf ops c2) u) W) : wpT P ops Q τ [c1, c2] [] a b := by
  refine wpT_bag (fun i => if i = c2 then [c1] else []) (fun i vals W => if i = c1 then R1 (vals c1) W else R2 (vals c1) (vals c2) W) hd ?_ ?_ ?_ ?_
  · intro i hi vals w w' hl hr
    by_cases e : i = c1
    · rw [if_pos e] at hr ⊢
      exact s1 _ _ _ hl hr
    · rw [if_neg e] at hr ⊢
      exact s2 _ _ _ _ hl hr
  · intro i hi k hk hki hds vals v W hr
    simp only [List.mem_cons, List.not_mem_nil, or_false] at hi hk
    rcases hi with rfl | rfl
    · rcases hk with rfl | rfl
      · exact absurd rfl hki
      · simp only [if_true] at hr ⊢
        simpa [upd, hne] using hr
    · rcases hk with rfl | rfl
      · simp at hds
      · exact absurd rfl hki
  · intro i hi vals W hW hdep
    simp only [List.mem_cons, List.not_mem_nil, or_false] at hi
    rcases hi with rfl | rfl
    · rw [if_neg hne]
      refine lVal_mono ?_ (h1 W hW)
      intro v w' _ hr
      simpa [upd] using hr
    · have q := hdep c1 (by simp)
      rw [if_pos rfl] at q
      rw [if_pos rfl]
      refine lVal_mono ?_ (h2 (vals c1) W hW q)
      intro v w' _ hr
      rw [if_neg (fun e => hne e.symm)]
      simpa [upd, hne] using hr
  · intro vals W hW hall
    have q := hall c2 (by simp)
    rw [if_neg (fun e => hne e.symm)] at q
    exact h (vals c1) (vals c2) W hW q
/-- a call, and a call of what it gives -/
theorem fin_two {ops : Array Oper} {Q : Exit → Act → World → Prop} {a : Act} {b : World} {sU sI : Nat} {dI : Tmp} {bb : World} {n : Nat} {r cc : Bool} {am : Option Addr} {cm : Nat} {M : List Sns} {T : Utt × Itt} (w0 : World) (g4 g5 : Nat) (hF : Fr11 w0 b g4 g5) (pU vU pI : Tmp) (hsU : OpAt ops sU none (.store 32 (.tmp pU) (.tmp vU))) (hsI : OpAt ops sI none (.store 44 (.tmp pI) (.tmp dI))) (cu : List Value) (eU : a.eval (.tmp pU) = .pointer (some ⟨g4, 0, none⟩)) (eV : a.eval (.tmp vU) = .agg cu.toArray) (eI : a.eval (.tmp pI) = .pointer (some ⟨g5, 0, none⟩)) (d1 : Tmp) (hs1 : d1 < a.tmps.size) (hsz : dI < a.tmps.size) (hne : (dI ≠ pU ∧ dI ≠ vU ∧ dI ≠ pI) ∧ d1 ≠ pU ∧ d1 ≠ vU ∧ d1 ≠ pI)
    {c1 c2 : Nat} (f1 : FuncId) (hp1 : Plain Tryz.prog f1) (xs1 : List Operand) (ts1 : Array TypeId) (us1 : List Value) (hx1 : xs1.map a.eval = us1) (hc1 : OpAt ops c1 (some d1) (.call { callee := .value (.func f1), args := xs1.toArray, argTypes := ts1 }))
    (f2 : FuncId) (hp2 : Plain Tryz.prog f2) (xs2 : List Operand) (ts2 : Array TypeId) (us2 : Value → List Value) (hx2 : ∀ v, xs2.map (a.put (some d1) v).eval = us2 v) (hc2 : OpAt ops c2 (some dI) (.call { callee := .value (.func f2), args := xs2.toArray, argTypes := ts2 }))
    (hcc : c1 ≠ c2) (hd : ([c1, c2].all fun i => ([c1, c2].filter fun k => dep .any ops i k) == (if i = c2 then [c1] else [])) = true)
    (R1 : Value → World → Prop) (s1 : ∀ v w w', Later w w' → R1 v w → R1 v w')
    (hcall1 : ∀ W, Later b W → Calls Tryz.prog f1 us1.toArray W fun e w' => ∃ v, e = .returned v ∧ Later W w' ∧ R1 v w')
    (hcall2 : ∀ v W, Later b W → R1 v W → Calls Tryz.prog f2 (us2 v).toArray W fun e w' => ∃ y, e = .returned (.agg y.toArray) ∧ Later W w' ∧ PdI bb n r cc am cm M T cu y w')
    (h : ∀ v y W, Later w0 W → Box W g4 32 cu → Box W g5 44 y → PdI bb n r cc am cm M T cu y W → Q .normal ((a.put (some d1) v).put (some dI) (.agg y.toArray)) W) : wpT Tryz.prog ops Q [sU, sI] [c1, c2] [] a b := by
  refine wpT_two c1 c2 hcc R1 (fun v u W => ∃ y, u = .agg y.toArray ∧ PdI bb n r cc am cm M T cu y W) hd s1 (by rintro v u w w' hl ⟨y, e, hy⟩; exact ⟨y, e, hy.later hl⟩) (fun W hW => lVal_callAt hc1 hp1 us1 hx1 (hcall1 W hW)) (fun v W hW hr => lVal_callAt hc2 hp2 (us2 v) (by rw [hc1.dst]; exact hx2 v) ((hcall2 v W hW hr).mono ?_)) ?_
  · rintro e w' ⟨y, rfl, hl, hy⟩
    exact ⟨_, rfl, hl, y, rfl, hy⟩
  · rintro v u W hW ⟨y, rfl, hy⟩
    rw [hc1.dst, hc2.dst]
    obtain ⟨⟨q1, q2, q3⟩, q4, q5, q6⟩ := hne
    exact fin_put w0 g4 g5 (hF.later hW) pU vU pI hsU hsI cu (by rw [eval_put_ne q1.symm, eval_put_ne q4.symm, eU]) (by rw [eval_put_ne q2.symm, eval_put_ne q5.symm, eV]) (by rw [eval_put_ne q3.symm, eval_put_ne q6.symm, eI]) y (eval_same (by rw [put_size]; exact hsz)) hy (fun W' q1 q2 q3 q4 => h v y W' q1 q2 q3 q4)
/-- a call of two results, and a call of both -/
theorem fin_ext {ops : Array Oper} {Q : Exit → Act → World → Prop} {a : Act} {b : World} {sU sI : Nat} {dI : Tmp} {bb : World} {n : Nat} {r cc : Bool} {am : Option Addr} {cm : Nat} {M : List Sns} {T : Utt × Itt} (w0 : World) (g4 g5 : Nat) (hF : Fr11 w0 b g4 g5) (pU vU pI : Tmp) (hsU : OpAt ops sU none (.store 32 (.tmp pU) (.tmp vU))) (hsI : OpAt ops sI none (.store 44 (.tmp pI) (.tmp dI))) (cu : List Value) (eU : a.eval (.tmp pU) = .pointer (some ⟨g4, 0, none⟩)) (eV : a.eval (.tmp vU) = .agg cu.toArray) (eI : a.eval (.tmp pI) = .pointer (some ⟨g5, 0, none⟩)) (d1 d2 d3 : Tmp) (hs1 : d1 < a.tmps.size) (hs2 : d2 < a.tmps.size) (hs3 : d3 < a.tmps.size) (hsz : dI < a.tmps.size) (hne : (dI ≠ pU ∧ dI ≠ vU ∧ dI ≠ pI) ∧ (d1 ≠ pU ∧ d1 ≠ vU ∧ d1 ≠ pI) ∧ (d2 ≠ pU ∧ d2 ≠ vU ∧ d2 ≠ pI) ∧ (d3 ≠ pU ∧ d3 ≠ vU ∧ d3 ≠ pI) ∧ d1 ≠ d2 ∧ d1 ≠ d3 ∧ d2 ≠ d3)
    {c1 x0 x1 c2 : Nat} (f1 : FuncId) (hp1 : Plain Tryz.prog f1) (xs1 : List Operand) (ts1 : Array TypeId) (us1 : List Value) (hx1 : xs1.map a.eval = us1) (hc1 : OpAt ops c1 (some d1) (.call { callee := .value (.func f1), args := xs1.toArray, argTypes := ts1 }))
    (he0 : OpAt ops x0 (some d2) (.extract (.tmp d1) 0)) (he1 : OpAt ops x1 (some d3) (.extract (.tmp d1) 1))
    (f2 : FuncId) (hp2 : Plain Tryz.prog f2) (ts2 : Array TypeId) (hc2 : OpAt ops c2 (some dI) (.call { callee := .value (.func f2), args := [Operand.tmp d2, .tmp d3].toArray, argTypes := ts2 }))
    (hcc : [c1, x0, x1, c2].Nodup) (hd : ([c1, x0, x1, c2].all fun i => ([c1, x0, x1, c2].filter fun k => dep .any ops i k) == (if i = c2 then [c1, x0, x1] else if i = c1 then [] else [c1])) = true)
    (z : Value) (R1 : Value → World → Prop) (s1 : ∀ v w w', Later w w' → R1 v w → R1 v w')
    (hcall1 : ∀ W, Later b W → Calls Tryz.prog f1 us1.toArray W fun e w' => ∃ v, e = .returned (.tuple #[v, z]) ∧ Later W w' ∧ R1 v w')
    (hcall2 : ∀ v W, Later b W → R1 v W → Calls Tryz.prog f2 #[v, z] W fun e w' => ∃ y, e = .returned (.agg y.toArray) ∧ Later W w' ∧ PdI bb n r cc am cm M T cu y w')
    (h : ∀ v y W, Later w0 W → Box W g4 32 cu → Box W g5 44 y → PdI bb n r cc am cm M T cu y W → Q .normal ((((a.put (some d1) (.tuple #[v, z])).put (some d2) v).put (some d3) z).put (some dI) (.agg y.toArray)) W) : wpT Tryz.prog ops Q [sU, sI] [c1, x0, x1, c2] [] a b := by
  simp only [List.nodup_cons, List.mem_cons, List.not_mem_nil, or_false, not_or, not_false_eq_true, List.nodup_nil, and_true] at hcc
  obtain ⟨⟨n01, n02, n03⟩, ⟨n12, n13⟩, n23⟩ := hcc
  refine wpT_bag (fun i => if i = c2 then [c1, x0, x1] else if i = c1 then [] else [c1]) (fun i vals W => if i = c1 then ∃ v, vals c1 = .tuple #[v, z] ∧ R1 v W else if i = x0 then vals c1 = .tuple #[vals x0, z] ∧ R1 (vals x0) W else if i = x1 then vals x1 = z else vals c1 = .tuple #[vals x0, z] ∧ vals x1 = z ∧ ∃ y, vals c2 = .agg y.toArray ∧ PdI bb n r cc am cm M T cu y W) hd ?_ ?_ ?_ ?_
  · intro i hi vals w w' hl hr
    by_cases e : i = c1
    · rw [if_pos e] at hr ⊢
      obtain ⟨v, q1, q2⟩ := hr
      exact ⟨v, q1, s1 _ _ _ hl q2⟩
    rw [if_neg e] at hr ⊢
    by_cases e : i = x0
    · rw [if_pos e] at hr ⊢
      exact ⟨hr.1, s1 _ _ _ hl hr.2⟩
    rw [if_neg e] at hr ⊢
    by_cases e : i = x1
    · rw [if_pos e] at hr ⊢
      exact hr
    rw [if_neg e] at hr ⊢
    obtain ⟨q1, q2, y, q3, q4⟩ := hr
    exact ⟨q1, q2, y, q3, q4.later hl⟩
  · intro i hi k hk hki hds vals v W hr
    simp only [List.mem_cons, List.not_mem_nil, or_false] at hi hk
    have m01 : ¬ x0 = c1 := fun e => n01 (Eq.symm e)
    have m02 : ¬ x1 = c1 := fun e => n02 (Eq.symm e)
    have m03 : ¬ c2 = c1 := fun e => n03 (Eq.symm e)
    have m12 : ¬ x1 = x0 := fun e => n12 (Eq.symm e)
    have m13 : ¬ c2 = x0 := fun e => n13 (Eq.symm e)
    have m23 : ¬ c2 = x1 := fun e => n23 (Eq.symm e)
    rcases hi with rfl | rfl | rfl | rfl <;> rcases hk with rfl | rfl | rfl | rfl <;> first | (exact absurd rfl hki) | (simp [n01, n02, n03, n12, n13, n23, m01, m02, m03, m12, m13, m23] at hds; done) | (simpa [upd, n01, n02, n03, n12, n13, n23, m01, m02, m03, m12, m13, m23] using hr)
  · intro i hi vals W hW hdep
    simp only [List.mem_cons, List.not_mem_nil, or_false] at hi
    have m01 : ¬ x0 = c1 := fun e => n01 (Eq.symm e)
    have m02 : ¬ x1 = c1 := fun e => n02 (Eq.symm e)
    have m03 : ¬ c2 = c1 := fun e => n03 (Eq.symm e)
    have m12 : ¬ x1 = x0 := fun e => n12 (Eq.symm e)
    have m13 : ¬ c2 = x0 := fun e => n13 (Eq.symm e)
    have m23 : ¬ c2 = x1 := fun e => n23 (Eq.symm e)
    obtain ⟨k1, k2, k3, k4, k5, k6, k7⟩ := hne
    rcases hi with rfl | rfl | rfl | rfl
    · rw [if_neg n03, if_pos rfl]
      refine lVal_callAt hc1 hp1 us1 hx1 ((hcall1 W hW).mono ?_)
      rintro e w' ⟨v, rfl, hl, hr⟩
      refine ⟨_, rfl, hl, ?_⟩
      rw [if_pos rfl]
      exact ⟨v, by simp [upd], hr⟩
    · rw [if_neg n13, if_neg m01] at hdep ⊢
      have q := hdep c1 (by simp)
      rw [if_pos rfl] at q
      obtain ⟨v, q1, q2⟩ := q
      refine lVal_extractAt he0 #[v, z] v ?_ rfl ?_
      · simp only [putAll, List.foldl, hc1.dst]
        rw [eval_same hs1, q1]
      · rw [if_neg m01, if_pos rfl]
        exact ⟨by simp [upd, n01, q1], by simpa [upd] using q2⟩
    · rw [if_neg n23, if_neg m02] at hdep ⊢
      have q := hdep c1 (by simp)
      rw [if_pos rfl] at q
      obtain ⟨v, q1, q2⟩ := q
      refine lVal_extractAt he1 #[v, z] z ?_ rfl ?_
      · simp only [putAll, List.foldl, hc1.dst]
        rw [eval_same hs1, q1]
      · rw [if_neg m02, if_neg m12, if_pos rfl]
        simp [upd]
    · rw [if_pos rfl] at hdep ⊢
      have q0 := hdep x0 (by simp)
      have q1 := hdep x1 (by simp)
      rw [if_neg m01, if_pos rfl] at q0
      rw [if_neg m02, if_neg m12, if_pos rfl] at q1
      refine lVal_callAt hc2 hp2 [vals x0, z] ?_ ((hcall2 (vals x0) W hW q0.2).mono ?_)
      · simp only [putAll, List.foldl, hc1.dst, he0.dst, he1.dst, List.map]
        rw [eval_put_ne k7, eval_same (by simp only [put_size]; exact hs2), eval_same (by simp only [put_size]; exact hs3), q1]
      · rintro e w' ⟨y, rfl, hl, hy⟩
        refine ⟨_, rfl, hl, ?_⟩
        rw [if_neg m03, if_neg m13, if_neg m23]
        exact ⟨by simp [upd, n03, n13, q0.1], by simp [upd, n23, q1], y, by simp [upd], hy⟩
  · intro vals W hW hall
    have m03 : ¬ c2 = c1 := fun e => n03 (Eq.symm e)
    have m13 : ¬ c2 = x0 := fun e => n13 (Eq.symm e)
    have m23 : ¬ c2 = x1 := fun e => n23 (Eq.symm e)
    have q := hall c2 (by simp)
    rw [if_neg m03, if_neg m13, if_neg m23] at q
    obtain ⟨q1, q2, y, q3, q4⟩ := q
    simp only [putAll, List.foldl, hc1.dst, he0.dst, he1.dst, hc2.dst]
    rw [q1, q2, q3]
    obtain ⟨⟨a1, a2, a3⟩, ⟨b1, b2, b3⟩, ⟨d1', d2', d3'⟩, ⟨f1', f2', f3'⟩, _⟩ := hne
    exact fin_put w0 g4 g5 (hF.later hW) pU vU pI hsU hsI cu (by rw [eval_put_ne a1.symm, eval_put_ne f1'.symm, eval_put_ne d1'.symm, eval_put_ne b1.symm, eU]) (by rw [eval_put_ne a2.symm, eval_put_ne f2'.symm, eval_put_ne d2'.symm, eval_put_ne b2.symm, eV]) (by rw [eval_put_ne a3.symm, eval_put_ne f3'.symm, eval_put_ne d3'.symm, eval_put_ne b3.symm, eI]) y (eval_same (by simp only [put_size]; exact hsz)) q4 (fun W' q1 q2 q3 q4 => h _ y W' q1 q2 q3 q4)
end Go.Proofs.YtfakboehmcimpaaGreat
