import Derived.Test.YtmelkgmbiiobgaaMAL
namespace Go.Proofs.Ytmelkgmbiiobgaa
open Go.ChangeShapes Go.WideShapes Go.ChangeAt Go.RowKit
set_option linter.unusedVariables false
set_option maxRecDepth 4000
set_option linter.unusedSimpArgs false
/-! What is asked of the landed intent. -/
/-- attentions that come back: those that came in, or new ones -/
def At11 (w w' : World) (am : Option Addr) (cm : Nat) (M : List Sns) (am' : Option Addr) (cm' : Nat) (M' : List Sns) : Prop :=
  (am' = am ∧ cm' = cm ∧ M' = M) ∨ (w'.ownsRow w.heap.size 30 3 (.slice am' M'.length cm') M'.length (sv M') ∧ ∀ s ∈ M', OkS s)
theorem At11.later {w w' w'' : World} {am : Option Addr} {cm : Nat} {M : List Sns} {am' : Option Addr} {cm' : Nat} {M' : List Sns} (h : At11 w w' am cm M am' cm' M') (hl : Later w' w'') : At11 w w'' am cm M am' cm' M' := by
  rcases h with h | h
  · exact .inl h
  · exact .inr ⟨owns_later h.1 hl, h.2⟩
theorem At11.base {b w w' : World} {am : Option Addr} {cm : Nat} {M : List Sns} {am' : Option Addr} {cm' : Nat} {M' : List Sns} (h : At11 w w' am cm M am' cm' M') (hl : b.heap.size ≤ w.heap.size) : At11 b w' am cm M am' cm' M' := by
  rcases h with h | h
  · exact .inl h
  · exact .inr ⟨owns_rebase h.1 hl, h.2⟩
theorem At11.set {w w' : World} {am : Option Addr} {cm : Nat} {M : List Sns} {am' : Option Addr} {cm' : Nat} {M' : List Sns} (h : At11 w w' am cm M am' cm' M') {g : Nat} {t : TypeId} {cs : List Value} (hB : Box w' g t cs) (ht : t ≠ 30) (vs : List Value) (o : Nat) : At11 w (w'.setCells g o vs) am cm M am' cm' M' := by
  rcases h with h | h
  · exact .inl h
  · exact .inr ⟨owns_kept h.1 fun k hk => heap_setCells_other w' g k (fun e' => box_ne_own hB h.1 ht k hk e'.symm) _ _, h.2⟩
theorem At11.sl {w w' : World} {am : Option Addr} {m cm : Nat} {M : List Sns} {am' : Option Addr} {cm' : Nat} {M' : List Sns} (h : At11 w w' am cm M am' cm' M') (hA : Sl w' (.slice am m cm) M) : Sl w' (.slice am' M'.length cm') M' := by
  rcases h with ⟨rfl, rfl, rfl⟩ | h
  · have hA2 := hA
    obtain ⟨⟨_, _, a, c, e, _⟩, _⟩ := hA2
    simp at e
    obtain ⟨-, rfl, -⟩ := e
    exact hA
  · exact ⟨Rw.of_owns h.1, h.2⟩
/-- what Begin comes to: a unit and an intent, as cells -/
def PdI (b : World) (n : Nat) (r cc : Bool) (am : Option Addr) (cm : Nat) (M : List Sns) (T : Utt × Itt) (x y : List Value) (W : World) : Prop :=
  (∃ ab cb aD k cD am' cm', x = uc ab n cb aD k cD T.1.2.2.1 r T.1.2.2.2.1 cc am' T.1.2.2.2.2.1.length cm' T.1.2.2.2.2.2 ∧ Med W (.agg #[.slice ab n cb, .slice aD k cD]) n T.1.1 T.1.2.1 ∧ At11 b W am cm M am' cm' T.1.2.2.2.2.1) ∧
  (∃ ax cx ar cr, y = ic T.2.1 T.2.2.1 ax T.2.2.2.1.length cx T.2.2.2.2.1 T.2.2.2.2.2.1 0 ar 0 cr (0, 0, 0) T.2.2.2.2.2.2 ∧ Bs W (.slice ax T.2.2.2.1.length cx) T.2.2.2.1)
theorem PdI.later {b : World} {n : Nat} {r cc : Bool} {am : Option Addr} {cm : Nat} {M : List Sns} {T : Utt × Itt} {x y : List Value} {W W' : World} (h : PdI b n r cc am cm M T x y W) (hl : Later W W') : PdI b n r cc am cm M T x y W' := by
  obtain ⟨⟨a1, a2, a3, a4, a5, a6, a7, e, hm, ha⟩, b1, b2, b3, b4, e2, hb⟩ := h
  exact ⟨⟨a1, a2, a3, a4, a5, a6, a7, e, hm.later hl, ha.later hl⟩, b1, b2, b3, b4, e2, hb.later hl⟩
theorem PdI.one {b : World} {n : Nat} {r cc : Bool} {am : Option Addr} {cm : Nat} {M : List Sns} {T : Utt × Itt} {x y : List Value} {W : World} (h : PdI b n r cc am cm M T x y W) :
    (x.length = 10 ∧ NoB x ∧ ∀ u ∈ x, u.oneCell' = true) ∧ (y.length = 17 ∧ NoB y ∧ ∀ u ∈ y, u.oneCell' = true) := by
  obtain ⟨⟨_, _, _, _, _, _, _, rfl, _⟩, _, _, _, _, rfl, _⟩ := h
  exact ⟨⟨rfl, uc_nob _ _ _ _ _ _ _ _ _ _ _ _ _ _, uc_one _ _ _ _ _ _ _ _ _ _ _ _ _ _⟩, rfl, ic_nob _ _ _ _ _ _ _ _ _ _ _ _ _, ic_one _ _ _ _ _ _ _ _ _ _ _ _ _⟩
theorem PdI.set {b : World} {n : Nat} {r cc : Bool} {am : Option Addr} {cm : Nat} {M : List Sns} {T : Utt × Itt} {x y : List Value} {W : World} {g : Nat} {t : TypeId} {cs : List Value} (h : PdI b n r cc am cm M T x y W) (ht : t = 32 ∨ t = 43) (hB : Box W g t cs) (hn : NoB cs) (vs : List Value) : PdI b n r cc am cm M T x y (W.setCells g 0 vs) := by
  obtain ⟨⟨a1, a2, a3, a4, a5, a6, a7, e, hm, ha⟩, b1, b2, b3, b4, e2, hb⟩ := h
  exact ⟨⟨a1, a2, a3, a4, a5, a6, a7, e, hm.setNoB hB hn vs 0, ha.set hB (by rcases ht with rfl | rfl <;> decide) vs 0⟩, b1, b2, b3, b4, e2, hb.setNoB hB hn vs 0⟩
def IBegin11 : Prop := ∀ (u : Value) (n : Nat) (F : List UInt8) (D : List Drt) (p r l cc : Bool) (am : Option Addr) (m cm : Nat) (s : Sns) (M : List Sns) (lun luns : Int) (c : Cmd) (w : World), Un w u n F D p r l cc am m cm s → Sl w (.slice am m cm) M → OkC7 c → OkS s → In64 lun → In64 luns → n ≤ 70 → D.length ≤ 70 → m ≤ 20 →
  Calls Try.prog 9 #[u, .int .i64 lun, .int .i64 luns, cval c] w fun e w' => ∃ x y, e = .returned (.tuple #[.agg x.toArray, .agg y.toArray]) ∧ Later w w' ∧ PdI w n r cc am cm M (begI n F D p r l cc M s lun luns c) x y w'
def INone11 : Prop := ∀ (s : Sns) (w : World), OkS s → Calls Try.prog 18 #[sval s] w fun e w' => ∃ i', e = .returned i' ∧ Later w w' ∧ IV w' i' (noneI s)
def IIn11 : Prop := ∀ (v : Value) (L : List UInt8) (s : Sns) (w : World), Bs w v L → OkS s → L.length ≤ 1000000 → Calls Try.prog 16 #[v, sval s] w fun e w' => ∃ i', e = .returned i' ∧ Later w w' ∧ IV w' i' (inI L s)
def Alive11 : Prop := ∀ w : World, Calls Try.prog 7 #[] w fun e w' => e = .returned (.bool true) ∧ Later w w'
/-- 'x, y := f(..)', a unit and an intent -/
theorem wpList_newUI {w : World} {ops : Array Oper} {rest : List Oper} {o1 o2 o3 o4 : Oper} {a : Act} {Q : Exit → Act → World → Prop} (hg1 : o1.guard = none) (hg2 : o2.guard = none) (hg3 : o3.guard = none) (hg4 : o4.guard = none)
    (h1 : o1.op = .alloc 32) (h2 : o2.op = .alloc 43) (d1 d2 : Tmp) (hd1 : o1.dst = some d1) (hd2 : o2.dst = some d2) (hs1 : d1 < a.tmps.size) (hs2 : d2 < a.tmps.size) (hne : d1 ≠ d2) (y1 y2 : Operand) (hy1 : y1 ≠ .tmp d1) (hy1' : y1 ≠ .tmp d2) (hy2 : y2 ≠ .tmp d1) (hy2' : y2 ≠ .tmp d2)
    (h3 : o3.op = .store 32 (.tmp d1) y1) (h4 : o4.op = .store 43 (.tmp d2) y2) (hd3 : o3.dst = none) (hd4 : o4.dst = none)
    (ab : Option Addr) (n cb : Nat) (aD : Option Addr) (k cD : Nat) (p r l cc : Bool) (am : Option Addr) (m cm : Nat) (s : Sns) (e1 : a.eval y1 = uval ab n cb aD k cD p r l cc am m cm s)
    (dir len : Int) (ax : Option Addr) (kx cx : Nat) (c : Cmd) (jl jt : Int) (ar : Option Addr) (kr cr : Nat) (S t : Sns) (e2 : a.eval y2 = ival dir len ax kx cx c jl jt ar kr cr S t)
    (h : ∀ (g1 g2 : Nat) (w' : World), Box w' g1 32 (uc ab n cb aD k cD p r l cc am m cm s) → Box w' g2 43 (ic dir len ax kx cx c jl jt ar kr cr S t) → Later w w' → Hid (g1 = w.heap.size ∧ g2 = w.heap.size + 1) → wpList Try.prog ops Q rest ((a.put (some d1) (.pointer (some ⟨g1, 0, none⟩))).put (some d2) (.pointer (some ⟨g2, 0, none⟩))) w') : wpList Try.prog ops Q (o1 :: o2 :: o3 :: o4 :: rest) a w :=
  wpList_new2 hg1 hg2 hg3 hg4 32 43 h1 h2 d1 d2 hd1 hd2 hs1 hs2 hne y1 y2 hy1 hy1' hy2 hy2' h3 h4 hd3 hd4 _ _ (uc ab n cb aD k cD p r l cc am m cm s) (ic dir len ax kx cx c jl jt ar kr cr S t) Try.zero_unit rfl Try.zero_intent rfl e1 e2 (uc_one _ _ _ _ _ _ _ _ _ _ _ _ _ _) (ic_one _ _ _ _ _ _ _ _ _ _ _ _ _) h
/-! More than is looked at? -/
def great11 (n : Nat) (D : List Drt) (m : Nat) : Bool := greatB n D || decide (20 < m)
theorem great11_no {n : Nat} {D : List Drt} {m : Nat} (h : great11 n D m = false) : n ≤ 70 ∧ D.length ≤ 70 ∧ m ≤ 20 := by
  simp [great11, greatB] at h
  omega
set_option maxRecDepth 20000 in
set_option maxHeartbeats 2000000 in
theorem great11_c {ab : Option Addr} {n cb : Nat} {aD : Option Addr} {k cD : Nat} {F : List UInt8} {D : List Drt} {p r l cc : Bool} {am : Option Addr} {m cm : Nat} {s : Sns} {c : Cmd} (w : World) (hm : Med w (.agg #[.slice ab n cb, .slice aD k cD]) n F D) (h1 : m ≤ maxLen) :
    Calls Try.prog 8 #[uval ab n cb aD k cD p r l cc am m cm s, cval c] w fun e w' => e = .returned (.bool (great11 n D m)) ∧ Later w w' := by
  unfold maxLen at h1
  have HM := hide hm
  clear hm
  have BX := hide ((Box.new w 32 (uc ab n cb aD k cD p r l cc am m cm s).toArray).alloc (.cells #[.int .i64 c.1, .int .u64 (c.2.1 : Int), .int .i64 c.2.2.1, .int .i64 c.2.2.2.1, .int .i64 c.2.2.2.2] 36))
  have LL := hide (((Later.refl w).alloc (.cells (uc ab n cb aD k cD p r l cc am m cm s).toArray 32)).alloc (.cells #[.int .i64 c.1, .int .u64 (c.2.1 : Int), .int .i64 c.2.2.1, .int .i64 c.2.2.2.1, .int .i64 c.2.2.2.2] 36))
  have x0 := BX.out.cell 0
  have x1 := BX.out.cell 1
  go_enter Try.func8, Try.ntmps8
  go_wp2_with fail
  generalize (w.alloc (.cells (uc ab n cb aD k cD p r l cc am m cm s).toArray 32)).alloc (.cells #[.int .i64 c.1, .int .u64 (c.2.1 : Int), .int .i64 c.2.2.1, .int .i64 c.2.2.2.1, .int .i64 c.2.2.2.2] 36) = w1 at *
  refine (rgreat_c _ (HM.out.later LL.out)).mono ?_
  rintro e w2 ⟨rfl, hl⟩
  replace LL := hide (LL.out.trans hl)
  replace BX := hide (BX.out.later hl)
  clear hl x0 x1 HM
  have x6 := BX.out.cell 6
  have HG : Hid (great11 n D m = (greatB n D || decide (20 < m))) := rfl
  generalize greatB n D = G at *
  cases G with
  | true =>
    go_wp2
    go_ret
    exact ⟨by rw [HG.out]; rfl, LL.out⟩
  | false =>
  by_cases q1 : 20 < m
  · go_wp2
    go_ret
    exact ⟨by rw [HG.out]; exact ret_bool (by first | (simp; done) | (simp; omega) | (rw [Bool.eq_iff_iff]; simp; omega)), LL.out⟩
  · go_wp2
    go_ret
    exact ⟨by rw [HG.out]; exact ret_bool (by first | (simp; done) | (simp; omega) | (rw [Bool.eq_iff_iff]; simp; omega)), LL.out⟩
end Go.Proofs.Ytmelkgmbiiobgaa
