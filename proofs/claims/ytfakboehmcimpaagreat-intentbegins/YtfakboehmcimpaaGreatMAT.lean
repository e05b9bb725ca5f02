import Derived.Test.YtfakboehmcimpaaGreatMAS
import Derived.Test.YtfakboehmcimpaaGreatMAM
import Derived.Test.YtfakboehmcimpaaGreatMAD
import Derived.Test.YtfakboehmcimpaaGreatMAB
namespace Go.Proofs.YtfakboehmcimpaaGreat
open Go.ChangeShapes Go.WideShapes Go.ChangeAt Go.RowKit
set_option linter.unusedVariables false
set_option maxRecDepth 4000
set_option linter.unusedSimpArgs false
/-! What is asked of the landed intent. -/
/-- attentions that come back: those that came in, or new ones -/
def At11 (w w' : World) (am : Option Addr) (cm : Nat) (M : List Sns) (am' : Option Addr) (cm' : Nat) (M' : List Sns) : Prop :=
  (am' = am ∧ cm' = cm ∧ M' = M) ∨ (w'.ownsRow w.heap.size 30 3 (.slice am' M'.length cm') M'.length (sv M') ∧ ∀ s ∈ M', OkS s)
theorem At11.later {w w' w'' : World} {am : Option Addr} {cm : Nat} {M : List Sns} {am' : Option Addr} {cm' : Nat} {M' : List Sns} (h : At11 w w' am cm M am' cm' M') (hl : Later w' w'') : At11 w w'' am cm M am' cm' M' := by
  rcases h with h | h
  · exact .inl h
  · exact .inr ⟨owns_later h.1 hl, h.2⟩
theorem At11.base {b w w' : World} {am : Option Addr} {cm : Nat} {M : List Sns} {am' : Option Addr} {cm' : Nat} {M' : List Sns} (h : At11 w w' am cm M am' cm' M') (hl : b.heap.size ≤ w.heap.size) : At11 b w' am cm M am' cm' M' := by
  rcases h with h | h
  · exact .inl h
  · exact .inr ⟨owns_rebase h.1 hl, h.2⟩
theorem At11.set {w w' : World} {am : Option Addr} {cm : Nat} {M : List Sns} {am' : Option Addr} {cm' : Nat} {M' : List Sns} (h : At11 w w' am cm M am' cm' M') {g : Nat} {t : TypeId} {cs : List Value} (hB : Box w' g t cs) (ht : t ≠ 30) (vs : List Value) (o : Nat) : At11 w (w'.setCells g o vs) am cm M am' cm' M' := by
  rcases h with h | h
  · exact .inl h
  · exact .inr ⟨owns_kept h.1 fun k hk => heap_setCells_other w' g k (fun e' => box_ne_own hB h.1 ht k hk e'.symm) _ _, h.2⟩
theorem At11.sl {w w' : World} {am : Option Addr} {m cm : Nat} {M : List Sns} {am' : Option Addr} {cm' : Nat} {M' : List Sns} (h : At11 w w' am cm M am' cm' M') (hA : Sl w' (.slice am m cm) M) : Sl w' (.slice am' M'.length cm') M' := by
  rcases h with ⟨rfl, rfl, rfl⟩ | h
  · have hA2 := hA
    obtain ⟨⟨_, _, a, c, e, _⟩, _⟩ := hA2
    simp at e
    obtain ⟨-, rfl, -⟩ := e
    exact hA
  · exact ⟨Rw.of_owns h.1, h.2⟩
/-- what Begin comes to: a unit and an intent, as cells -/
def PdI (b : World) (n : Nat) (r cc : Bool) (am : Option Addr) (cm : Nat) (M : List Sns) (T : Utt × Itt) (x y : List Value) (W : World) : Prop :=
  (∃ ab cb aD k cD am' cm', x = uc ab n cb aD k cD T.1.2.2.1 r T.1.2.2.2.1 cc am' T.1.2.2.2.2.1.length cm' T.1.2.2.2.2.2 ∧ Med W (.agg #[.slice ab n cb, .slice aD k cD]) n T.1.1 T.1.2.1 ∧ At11 b W am cm M am' cm' T.1.2.2.2.2.1) ∧
  (∃ ax cx ar cr, y = ic T.2.1 T.2.2.1 ax T.2.2.2.1.length cx T.2.2.2.2.1 T.2.2.2.2.2.1 0 ar 0 cr (0, 0, 0) T.2.2.2.2.2.2 ∧ Bs W (.slice ax T.2.2.2.1.length cx) T.2.2.2.1)
theorem PdI.later {b : World} {n : Nat} {r cc : Bool} {am : Option Addr} {cm : Nat} {M : List Sns} {T : Utt × Itt} {x y : List Value} {W W' : World} (h : PdI b n r cc am cm M T x y W) (hl : Later W W') : PdI b n r cc am cm M T x y W' := by
  obtain ⟨⟨a1, a2, a3, a4, a5, a6, a7, e, hm, ha⟩, b1, b2, b3, b4, e2, hb⟩ := h
  exact ⟨⟨a1, a2, a3, a4, a5, a6, a7, e, hm.later hl, ha.later hl⟩, b1, b2, b3, b4, e2, hb.later hl⟩
theorem PdI.one {b : World} {n : Nat} {r cc : Bool} {am : Option Addr} {cm : Nat} {M : List Sns} {T : Utt × Itt} {x y : List Value} {W : World} (h : PdI b n r cc am cm M T x y W) :
    (x.length = 10 ∧ NoB x ∧ ∀ u ∈ x, u.oneCell' = true) ∧ (y.length = 17 ∧ NoB y ∧ ∀ u ∈ y, u.oneCell' = true) := by
  obtain ⟨⟨_, _, _, _, _, _, _, rfl, _⟩, _, _, _, _, rfl, _⟩ := h
  exact ⟨⟨rfl, uc_nob _ _ _ _ _ _ _ _ _ _ _ _ _ _, uc_one _ _ _ _ _ _ _ _ _ _ _ _ _ _⟩, rfl, ic_nob _ _ _ _ _ _ _ _ _ _ _ _ _, ic_one _ _ _ _ _ _ _ _ _ _ _ _ _⟩
theorem PdI.set {b : World} {n : Nat} {r cc : Bool} {am : Option Addr} {cm : Nat} {M : List Sns} {T : Utt × Itt} {x y : List Value} {W : World} {g : Nat} {t : TypeId} {cs : List Value} (h : PdI b n r cc am cm M T x y W) (ht : t = 32 ∨ t = 44) (hB : Box W g t cs) (hn : NoB cs) (vs : List Value) : PdI b n r cc am cm M T x y (W.setCells g 0 vs) := by
  obtain ⟨⟨a1, a2, a3, a4, a5, a6, a7, e, hm, ha⟩, b1, b2, b3, b4, e2, hb⟩ := h
  exact ⟨⟨a1, a2, a3, a4, a5, a6, a7, e, hm.setNoB hB hn vs 0, ha.set hB (by rcases ht with rfl | rfl <;> decide) vs 0⟩, b1, b2, b3, b4, e2, hb.setNoB hB hn vs 0⟩
def IBegin11 : Prop := ∀ (u : Value) (n : Nat) (F : List UInt8) (D : List Drt) (p r l cc : Bool) (am : Option Addr) (m cm : Nat) (s : Sns) (M : List Sns) (lun luns : Int) (c : Cmd) (w : World), Un w u n F D p r l cc am m cm s → Sl w (.slice am m cm) M → OkC7 c → OkS s → In64 lun → In64 luns → n ≤ 70 → D.length ≤ 70 → m ≤ 20 →
  Calls Tryz.prog 7 #[u, .int .i64 lun, .int .i64 luns, cval c] w fun e w' => ∃ x y, e = .returned (.tuple #[.agg x.toArray, .agg y.toArray]) ∧ Later w w' ∧ PdI w n r cc am cm M (begI n F D p r l cc M s lun luns c) x y w'
def IIn11 : Prop := ∀ (v : Value) (L : List UInt8) (s : Sns) (w : World), Bs w v L → OkS s → L.length ≤ 1000000 → Calls Tryz.prog 21 #[v, sval s] w fun e w' => ∃ i', e = .returned i' ∧ Later w w' ∧ IV w' i' (inI L s)
def Alive11 : Prop := ∀ w : World, Calls Tryz.prog 4 #[] w fun e w' => e = .returned (.bool true) ∧ Later w w'
/-- 'x, y := f(..)', a unit and an intent -/
theorem wpList_newUI {w : World} {ops : Array Oper} {rest : List Oper} {o1 o2 o3 o4 : Oper} {a : Act} {Q : Exit → Act → World → Prop} (hg1 : o1.guard = none) (hg2 : o2.guard = none) (hg3 : o3.guard = none) (hg4 : o4.guard = none)
    (h1 : o1.op = .alloc 32) (h2 : o2.op = .alloc 44) (d1 d2 : Tmp) (hd1 : o1.dst = some d1) (hd2 : o2.dst = some d2) (hs1 : d1 < a.tmps.size) (hs2 : d2 < a.tmps.size) (hne : d1 ≠ d2) (y1 y2 : Operand) (hy1 : y1 ≠ .tmp d1) (hy1' : y1 ≠ .tmp d2) (hy2 : y2 ≠ .tmp d1) (hy2' : y2 ≠ .tmp d2)
    (h3 : o3.op = .store 32 (.tmp d1) y1) (h4 : o4.op = .store 44 (.tmp d2) y2) (hd3 : o3.dst = none) (hd4 : o4.dst = none)
    (ab : Option Addr) (n cb : Nat) (aD : Option Addr) (k cD : Nat) (p r l cc : Bool) (am : Option Addr) (m cm : Nat) (s : Sns) (e1 : a.eval y1 = uval ab n cb aD k cD p r l cc am m cm s)
    (dir len : Int) (ax : Option Addr) (kx cx : Nat) (c : Cmd) (jl jt : Int) (ar : Option Addr) (kr cr : Nat) (S t : Sns) (e2 : a.eval y2 = ival dir len ax kx cx c jl jt ar kr cr S t)
    (h : ∀ (g1 g2 : Nat) (w' : World), Box w' g1 32 (uc ab n cb aD k cD p r l cc am m cm s) → Box w' g2 44 (ic dir len ax kx cx c jl jt ar kr cr S t) → Later w w' → Hid (g1 = w.heap.size ∧ g2 = w.heap.size + 1) → wpList Tryz.prog ops Q rest ((a.put (some d1) (.pointer (some ⟨g1, 0, none⟩))).put (some d2) (.pointer (some ⟨g2, 0, none⟩))) w') : wpList Tryz.prog ops Q (o1 :: o2 :: o3 :: o4 :: rest) a w :=
  wpList_new2 hg1 hg2 hg3 hg4 32 44 h1 h2 d1 d2 hd1 hd2 hs1 hs2 hne y1 y2 hy1 hy1' hy2 hy2' h3 h4 hd3 hd4 _ _ (uc ab n cb aD k cD p r l cc am m cm s) (ic dir len ax kx cx c jl jt ar kr cr S t) Tryz.zero_unit rfl Tryz.zero_intent rfl e1 e2 (uc_one _ _ _ _ _ _ _ _ _ _ _ _ _ _) (ic_one _ _ _ _ _ _ _ _ _ _ _ _ _) h
/-! More than is looked at? -/
def great11 (n : Nat) (D : List Drt) (m : Nat) : Bool := greatB n D || decide (20 < m)
theorem great11_no {n : Nat} {D : List Drt} {m : Nat} (h : great11 n D m = false) : n ≤ 70 ∧ D.length ≤ 70 ∧ m ≤ 20 := by
  simp [great11, greatB] at h
  omega
set_option maxRecDepth 20000 in
set_option maxHeartbeats 2000000 in
theorem great11_c {ab : Option Addr} {n cb : Nat} {aD : Option Addr} {k cD : Nat} {F : List UInt8} {D : List Drt} {p r l cc : Bool} {am : Option Addr} {m cm : Nat} {s : Sns} {c : Cmd} (w : World) (hm : Med w (.agg #[.slice ab n cb, .slice aD k cD]) n F D) (h1 : m ≤ maxLen) :
    Calls Tryz.prog 5 #[uval ab n cb aD k cD p r l cc am m cm s, cval c] w fun e w' => e = .returned (.bool (great11 n D m)) ∧ Later w w' := by
  unfold maxLen at h1
  have HM := hide hm
  clear hm
  have BX := hide ((Box.new w 32 (uc ab n cb aD k cD p r l cc am m cm s).toArray).alloc (.cells #[.int .i64 c.1, .int .u64 (c.2.1 : Int), .int .i64 c.2.2.1, .int .i64 c.2.2.2.1, .int .i64 c.2.2.2.2] 36))
  have LL := hide (((Later.refl w).alloc (.cells (uc ab n cb aD k cD p r l cc am m cm s).toArray 32)).alloc (.cells #[.int .i64 c.1, .int .u64 (c.2.1 : Int), .int .i64 c.2.2.1, .int .i64 c.2.2.2.1, .int .i64 c.2.2.2.2] 36))
  have x0 := BX.out.cell 0
  have x1 := BX.out.cell 1
  go_enter Tryz.func5, Tryz.ntmps5
  go_wp2_with fail
  generalize (w.alloc (.cells (uc ab n cb aD k cD p r l cc am m cm s).toArray 32)).alloc (.cells #[.int .i64 c.1, .int .u64 (c.2.1 : Int), .int .i64 c.2.2.1, .int .i64 c.2.2.2.1, .int .i64 c.2.2.2.2] 36) = w1 at *
  refine (rgreat_c _ (HM.out.later LL.out)).mono ?_
  rintro e w2 ⟨rfl, hl⟩
  replace LL := hide (LL.out.trans hl)
  replace BX := hide (BX.out.later hl)
  clear hl x0 x1 HM
  have x6 := BX.out.cell 6
  have HG : Hid (great11 n D m = (greatB n D || decide (20 < m))) := rfl
  generalize greatB n D = G at *
  cases G with
  | true =>
    go_wp2
    go_ret
    exact ⟨by rw [HG.out]; rfl, LL.out⟩
  | false =>
  by_cases q1 : 20 < m
  · go_wp2
    go_ret
    exact ⟨by rw [HG.out]; exact ret_bool (by first | (simp; done) | (simp; omega) | (rw [Bool.eq_iff_iff]; simp; omega)), LL.out⟩
  · go_wp2
    go_ret
    exact ⟨by rw [HG.out]; exact ret_bool (by first | (simp; done) | (simp; omega) | (rw [Bool.eq_iff_iff]; simp; omega)), LL.out⟩
end Go.Proofs.YtfakboehmcimpaaGreat

namespace Go.Proofs.YtfakboehmcimpaaGreat
open Go.ChangeShapes Go.WideShapes Go.ChangeAt Go.RowKit
set_option linter.unusedVariables false
set_option maxRecDepth 4000
set_option linter.unusedSimpArgs false
/-! An intent has as many bytes as it says. -/
end Go.Proofs.YtfakboehmcimpaaGreat

namespace Go.Proofs.YtfakboehmcimpaaGreat
open Go Go.RowKit
set_option linter.unusedVariables false
set_option maxRecDepth 4000
set_option linter.unusedSimpArgs false
/-! Regions that draw their order: operations that touch no memory first (α), then such as read what a last one changes (μ), all of which one (x) waits for; behind it whatever alone may come up. -/
section
variable {P : Program} {ops : Array Oper}
def topI : World → Prop := fun _ => True
end
end Go.Proofs.YtfakboehmcimpaaGreat

namespace Go.Proofs.YtfakboehmcimpaaGreat
open Go.ChangeShapes Go.WideShapes Go.ChangeAt Go.RowKit
set_option linter.unusedVariables false
set_option maxRecDepth 4000
set_option linter.unusedSimpArgs false
/-! The fixed fact of layer 11: what it stands on. -/
def y192 : List UInt8 := List.replicate 192 0
theorem jOp_of_run {P : Program} {ops : Array Oper} {i : Nat} {o : Oper} {a : Act} {w w' : World} {v : Value} {K : Act → World → Prop} (ho : ops[i]? = some o) (hgd : o.guard = none) (hrun : (execOp a.eval o).run P w = .ok (.value v) w') (hK : K (a.put o.dst v) w') : jOp P ops topI i K a w := by
  unfold jOp
  simp only [ho]
  rw [if_pos (by simp [Region.wanted, hgd]), hrun]
  exact ⟨trivial, hK⟩
set_option maxHeartbeats 2000000 in
theorem unit11_c (w : World) : Calls Tryz.prog 11 #[] w fun e w' => ∃ v, e = .returned v ∧ Later w w' ∧ Un w' v 3 y192 [] true false false true none 0 0 (5, 33, 0) := by
  have BX : Hid (Box (w.alloc (.cells #[.slice none 0 0, .slice none 0 0, .bool false, .bool false, .bool false, .bool false, .slice none 0 0, .int .i64 0, .int .i64 0, .int .i64 0] 32)) w.heap.size 32 (uc none 0 0 none 0 0 false false false false none 0 0 (0, 0, 0))) := Box.new w 32 #[.slice none 0 0, .slice none 0 0, .bool false, .bool false, .bool false, .bool false, .slice none 0 0, .int .i64 0, .int .i64 0, .int .i64 0]
  have LL := hide ((Later.refl w).alloc (.cells #[.slice none 0 0, .slice none 0 0, .bool false, .bool false, .bool false, .bool false, .slice none 0 0, .int .i64 0, .int .i64 0, .int .i64 0] 32))
  go_enter Tryz.func11, Tryz.ntmps11
  go_wp2_with fail
  generalize w.alloc (.cells #[.slice none 0 0, .slice none 0 0, .bool false, .bool false, .bool false, .bool false, .slice none 0 0, .int .i64 0, .int .i64 0, .int .i64 0] 32) = w1 at *
  obtain ⟨gx, hgx⟩ : ∃ gx, gx = w.heap.size := ⟨_, rfl⟩
  rw [← hgx] at BX ⊢
  have HG : Hid (w.heap.size ≤ gx) := by rw [Hid]; omega
  clear hgx
  have hwd := (Later.refl w1).drew
  refine wp_region_held topI (fun _ _ _ _ => trivial) trivial [(3, false), (0, true), (1, false), (2, false), (4, false), (5, true)] (by kernel_rfl) (by kernel_rfl) (by kernel_rfl) (by kernel_rfl) ?_
  haveI : Nonempty (Held topI) := ⟨⟨w1, trivial⟩⟩
  refine wpJ_call rfl (by kernel_rfl) 12 (Plain.of (by kernel_rfl)) [.const (.int .i64 5), .const (.int .i64 33), .const (.int .i64 0)] _ rfl [.int .i64 5, .int .i64 33, .int .i64 0] rfl (sval (5, 33, 0)) (fun wx hx => rof_c 5 33 0 wx) ?_
  intro W hW
  obtain ⟨i0, hi, hz0, hz1, hz2⟩ := Tryz.elem_z64
  obtain ⟨w2, hrun, ho, hgr⟩ := run_make_full (P := Tryz.prog) (w := W) W.heap.size 22 80 i0 z64 64 Tryz.underlying22 hi hz0 hz1 .i64 .i64 3 (by rw [hz2]; decide) (by decide) (Nat.le_refl _)
  refine jOp_of_run (v := .slice (some ⟨W.heap.size, 0, none⟩) 3 3) (w' := w2) rfl rfl ?_ ?_
  · have hrun2 : (Instr.makeSlice 22 (.int .i64 3) (.int .i64 3)).run Tryz.prog W = .ok (.slice (some ⟨W.heap.size, 0, none⟩) 3 3) w2 := hrun
    simp [execOp, hrun2, Result.andThen]
    go_simp
  rw [made64 3] at ho
  have hl : Later W w2 := Below.grown0 hgr
  replace LL := hide ((LL.out.trans (hwd.trans hW)).trans hl)
  replace BX := hide (BX.out.later ((hwd.trans hW).trans hl))
  have HM : Hid (Med w2 (.agg #[.slice (some ⟨W.heap.size, 0, none⟩) 3 3, .slice none 0 0]) 3 y192 []) := ⟨_, _, rfl, Rw.of_owns ho, Rw.nil 65 _, fun d hd => by cases hd⟩
  clear ho hl hW hgr hrun hwd hi hz0 hz1 hz2
  generalize W.heap.size = gb at *
  iterate 3 (refine wpJ_mild rfl (fun K hK => ?_); go_simp; refine hK _ ?_; clear hK K)
  refine wpJ_store rfl rfl 32 (.tmp 0) (.tmp 5) rfl gx (uc (some ⟨gb, 0, none⟩) 3 3 none 0 0 true false false true none 0 0 (5, 33, 0)) rfl rfl Tryz.info_unit (uc_one _ _ _ _ _ _ _ _ _ _ _ _ _ _) _ _ BX.out (by simp) (fun W hW => trivial) ?_
  intro wl hl wz hz
  have BZ := (BX.out.later hl).all (uc (some ⟨gb, 0, none⟩) 3 3 none 0 0 true false false true none 0 0 (5, 33, 0)) rfl
  have LZ := (LL.out.trans hl).setCells HG.out (uc (some ⟨gb, 0, none⟩) 3 3 none 0 0 true false false true none 0 0 (5, 33, 0)) 0
  have MZ := (HM.out.later hl).setNoB (BX.out.later hl) (uc_nob _ _ _ _ _ _ _ _ _ _ _ _ _ _) (uc (some ⟨gb, 0, none⟩) 3 3 none 0 0 true false false true none 0 0 (5, 33, 0)) 0
  rw [← hz.out] at BZ LZ MZ
  refine wpJ_nil (fun wn hn => ?_)
  replace BZ := hide (BZ.later hn)
  replace LZ := hide (LZ.trans hn)
  replace MZ := hide (MZ.later hn)
  clear hn hl hz HM BX LL
  go_wp2
  refine bodyPost_ret (results_cell1 rfl _ _ _ gx 0 rfl _ (load_unit BZ.out rfl)) rfl ⟨_, rfl, LZ.out, ⟨_, _, _, _, _, rfl, MZ.out⟩⟩
def bg (F : List UInt8) (D : List Drt) (p l : Bool) (M : List Sns) (s : Sns) (c : Cmd) : Utt × Itt := begI 3 F D p false l true M s 0 1 c
def bq1 : Utt × Itt := bg y192 [] true false [] (5, 33, 0) (40, 1, 2, 0, 0)
def bq2 : Utt × Itt := bg y192 [] true false [] (5, 33, 0) (40, 2, 2, 0, 0)
def bq3 : Utt × Itt := bg y192 [] true false [] (5, 33, 0) (42, 2, 1, 0, 0)
def bq4 : Utt × Itt := bg y192 [] true false [] (5, 33, 0) (3, 0, 18, 0, 0)
def bq5 : Utt × Itt := bg y192 [] true false [] (5, 33, 0) (27, 0, 0, 0, 2)
def bq6 : Utt × Itt := bg bq5.1.1 bq5.1.2.1 false false [] (5, 33, 0) (27, 0, 0, 0, 3)
def bq7 : Utt × Itt := bg bq5.1.1 bq5.1.2.1 false false [] (5, 33, 0) (37, 0, 0, 0, 0)
def bq8 : Utt × Itt := bg bq5.1.1 bq5.1.2.1 true false bq6.1.2.2.2.2.1 (5, 33, 0) (255, 0, 0, 0, 0)
theorem bq1_f : bq1.2.1 = 1 ∧ bq1.2.2.1 = 128 ∧ bq1.2.2.2.1.length = 128 := by decide +kernel
theorem bq2_f : bq2.2.1 = 0 ∧ bq2.2.2.2.2.2.2 = (5, 33, 0) := by decide +kernel
theorem bq3_f : bq3.2.1 = 2 ∧ bq3.2.2.1 = 64 := by decide +kernel
theorem bq4_f : bq4.2.2.1 = 18 ∧ bq4.2.2.2.1.length = 18 ∧ bq4.2.2.2.1[12]? = some 33 ∧ bq4.1.2.2.2.2.2 = (0, 0, 0) := by decide +kernel
theorem bq5_f : bq5.2 = noneI (0, 0, 0) ∧ bq5.1.2.2.1 = false ∧ bq5.1.2.2.2.1 = false ∧ bq5.1.2.2.2.2.1 = [] ∧ bq5.1.2.2.2.2.2 = (5, 33, 0) ∧ bq5.1.2.1 = [] := ⟨by kernel_rfl, by kernel_rfl, by kernel_rfl, by kernel_rfl, by kernel_rfl, by kernel_rfl⟩
theorem bq6_f : bq6.2 = noneI (0, 0, 0) ∧ bq6.1.1 = bq5.1.1 ∧ bq6.1.2.1 = bq5.1.2.1 ∧ bq6.1.2.2.1 = true ∧ bq6.1.2.2.2.1 = false ∧ bq6.1.2.2.2.2.1.length = 1 ∧ bq6.1.2.2.2.2.2 = (5, 33, 0) := ⟨by kernel_rfl, by kernel_rfl, by kernel_rfl, by kernel_rfl, by kernel_rfl, by kernel_rfl, by kernel_rfl⟩
theorem bq7_f : bq7.2.2.2.2.2.2 = (2, 58, 0) := by decide +kernel
theorem bq8_f : bq8.2.2.2.2.2.2 = (5, 32, 0) := by decide +kernel
end Go.Proofs.YtfakboehmcimpaaGreat
