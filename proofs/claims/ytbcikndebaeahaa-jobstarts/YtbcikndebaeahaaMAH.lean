import Derived.Deep.OwnRows
import Derived.Deep.Onto
import Derived.Test.YtbcikndebaeahaaMAG
import Derived.Test.YtbcikndebaeahaaMAC
import Derived.Test.YtbcikndebaeahaaMAA
import Derived.Test.YtbcikndebaeahaaMAF
namespace Go.Proofs.Ytbcikndebaeahaa
open Go.ChangeShapes Go.WideShapes Go.ChangeAt Go.RowKit
set_option linter.unusedVariables false
set_option maxRecDepth 4000
set_option linter.unusedSimpArgs false
/-! The landed sense: the sixteen senses, Good, Bytes. -/
theorem con_NotReady : IConS 88 (2, 58, 0) := by
  intro w
  have B0 := hide (Box.new w 30 #[.int .i64 2, .int .i64 58, .int .i64 0])
  have L0 := hide ((Later.refl w).alloc (.cells #[.int .i64 2, .int .i64 58, .int .i64 0] 30))
  go_enter Try.func88, Try.ntmps88
  go_wp2
  exact bodyPost_ret (results_cell1 rfl _ _ _ w.heap.size 0 rfl (sval (2, 58, 0)) (run_loadVar_mid _ _ _ _ [.int .i64 2, .int .i64 58, .int .i64 0] _ B0.out.range Try.underlying30 rfl (by kernel_rfl))) rfl ⟨rfl, L0.out⟩
theorem con_Protected : IConS 74 (7, 39, 0) := by
  intro w
  have B0 := hide (Box.new w 30 #[.int .i64 7, .int .i64 39, .int .i64 0])
  have L0 := hide ((Later.refl w).alloc (.cells #[.int .i64 7, .int .i64 39, .int .i64 0] 30))
  go_enter Try.func74, Try.ntmps74
  go_wp2
  exact bodyPost_ret (results_cell1 rfl _ _ _ w.heap.size 0 rfl (sval (7, 39, 0)) (run_loadVar_mid _ _ _ _ [.int .i64 7, .int .i64 39, .int .i64 0] _ B0.out.range Try.underlying30 rfl (by kernel_rfl))) rfl ⟨rfl, L0.out⟩
theorem con_Range : IConS 77 (5, 33, 0) := by
  intro w
  have B0 := hide (Box.new w 30 #[.int .i64 5, .int .i64 33, .int .i64 0])
  have L0 := hide ((Later.refl w).alloc (.cells #[.int .i64 5, .int .i64 33, .int .i64 0] 30))
  go_enter Try.func77, Try.ntmps77
  go_wp2
  exact bodyPost_ret (results_cell1 rfl _ _ _ w.heap.size 0 rfl (sval (5, 33, 0)) (run_loadVar_mid _ _ _ _ [.int .i64 5, .int .i64 33, .int .i64 0] _ B0.out.range Try.underlying30 rfl (by kernel_rfl))) rfl ⟨rfl, L0.out⟩
theorem con_Parameter : IConS 85 (5, 38, 0) := by
  intro w
  have B0 := hide (Box.new w 30 #[.int .i64 5, .int .i64 38, .int .i64 0])
  have L0 := hide ((Later.refl w).alloc (.cells #[.int .i64 5, .int .i64 38, .int .i64 0] 30))
  go_enter Try.func85, Try.ntmps85
  go_wp2
  exact bodyPost_ret (results_cell1 rfl _ _ _ w.heap.size 0 rfl (sval (5, 38, 0)) (run_loadVar_mid _ _ _ _ [.int .i64 5, .int .i64 38, .int .i64 0] _ B0.out.range Try.underlying30 rfl (by kernel_rfl))) rfl ⟨rfl, L0.out⟩
theorem con_Length : IConS 49 (5, 26, 0) := by
  intro w
  have B0 := hide (Box.new w 30 #[.int .i64 5, .int .i64 26, .int .i64 0])
  have L0 := hide ((Later.refl w).alloc (.cells #[.int .i64 5, .int .i64 26, .int .i64 0] 30))
  go_enter Try.func49, Try.ntmps49
  go_wp2
  exact bodyPost_ret (results_cell1 rfl _ _ _ w.heap.size 0 rfl (sval (5, 26, 0)) (run_loadVar_mid _ _ _ _ [.int .i64 5, .int .i64 26, .int .i64 0] _ B0.out.range Try.underlying30 rfl (by kernel_rfl))) rfl ⟨rfl, L0.out⟩
theorem con_Differs : IConS 68 (14, 29, 0) := by
  intro w
  have B0 := hide (Box.new w 30 #[.int .i64 14, .int .i64 29, .int .i64 0])
  have L0 := hide ((Later.refl w).alloc (.cells #[.int .i64 14, .int .i64 29, .int .i64 0] 30))
  go_enter Try.func68, Try.ntmps68
  go_wp2
  exact bodyPost_ret (results_cell1 rfl _ _ _ w.heap.size 0 rfl (sval (14, 29, 0)) (run_loadVar_mid _ _ _ _ [.int .i64 14, .int .i64 29, .int .i64 0] _ B0.out.range Try.underlying30 rfl (by kernel_rfl))) rfl ⟨rfl, L0.out⟩
theorem sgood_c : IGoodS := by
  intro s w hs
  have BX := hide (Box.new w 30 #[.int .i64 s.1, .int .i64 s.2.1, .int .i64 s.2.2])
  have L0 := hide ((Later.refl w).alloc (.cells #[.int .i64 s.1, .int .i64 s.2.1, .int .i64 s.2.2] 30))
  go_enter Try.func50, Try.ntmps50
  go_wp2_with (refine wpList_eqS (by kernel_rfl) (.tmp 3) (.tmp 4) rfl s (0, 0, 0) rfl rfl ?_)
  go_ret
  exact ⟨rfl, L0.out⟩
end Go.Proofs.Ytbcikndebaeahaa

namespace Go.Proofs.Ytbcikndebaeahaa
open Go.ChangeShapes Go.WideShapes Go.ChangeAt Go.RowKit
set_option linter.unusedVariables false
set_option maxRecDepth 4000
set_option linter.unusedSimpArgs false
/-! Ops, and their classes. -/
def classI (op : Int) : Int := if op = 8 ∨ op = 40 ∨ op = 168 ∨ op = 136 then 1 else if op = 10 ∨ op = 42 ∨ op = 170 ∨ op = 138 then 2 else if op = 47 ∨ op = 175 ∨ op = 143 then 3 else if op = 53 ∨ op = 145 then 4 else 0
theorem class_cases (op : Int) : (op = 8 ∨ op = 40 ∨ op = 168 ∨ op = 136 ∨ op = 10 ∨ op = 42 ∨ op = 170 ∨ op = 138 ∨ op = 47 ∨ op = 175 ∨ op = 143 ∨ op = 53 ∨ op = 145) ∨ (op ≠ 8 ∧ op ≠ 40 ∧ op ≠ 168 ∧ op ≠ 136 ∧ op ≠ 10 ∧ op ≠ 42 ∧ op ≠ 170 ∧ op ≠ 138 ∧ op ≠ 47 ∧ op ≠ 175 ∧ op ≠ 143 ∧ op ≠ 53 ∧ op ≠ 145) := by omega
theorem class_other {op : Int} (h : op ≠ 8 ∧ op ≠ 40 ∧ op ≠ 168 ∧ op ≠ 136 ∧ op ≠ 10 ∧ op ≠ 42 ∧ op ≠ 170 ∧ op ≠ 138 ∧ op ≠ 47 ∧ op ≠ 175 ∧ op ≠ 143 ∧ op ≠ 53 ∧ op ≠ 145) : classI op = 0 := by
  unfold classI; simp [h]
set_option maxHeartbeats 1000000 in
theorem class_c (op : Int) (w : World) : Calls Try.prog 53 #[.int .i64 op] w fun e w' => e = .returned (.int .i64 (classI op)) ∧ w' = w := by
  rcases class_cases op with h | h
  · rcases h with rfl | rfl | rfl | rfl | rfl | rfl | rfl | rfl | rfl | rfl | rfl | rfl | rfl <;>
    · go_enter Try.func53, Try.ntmps53
      go_wp2
      go_ret
      exact ⟨rfl, rfl⟩
  · have hc := hide (class_other h)
    obtain ⟨h1, h2, h3, h4, h5, h6, h7, h8, h9, h10, h11, h12, h13⟩ := h
    go_enter Try.func53, Try.ntmps53
    go_wp2
    go_ret
    exact ⟨by rw [hc.out]; rfl, rfl⟩
set_option maxHeartbeats 1000000 in
theorem rclass_c (op : Int) (w : World) : Calls Try.prog 38 #[.int .i64 op] w fun e w' => e = .returned (.int .i64 (classI op)) ∧ w' = w := by
  rcases class_cases op with h | h
  · rcases h with rfl | rfl | rfl | rfl | rfl | rfl | rfl | rfl | rfl | rfl | rfl | rfl | rfl <;>
    · go_enter Try.func38, Try.ntmps38
      go_wp2
      go_ret
      exact ⟨rfl, rfl⟩
  · have hc := hide (class_other h)
    obtain ⟨h1, h2, h3, h4, h5, h6, h7, h8, h9, h10, h11, h12, h13⟩ := h
    go_enter Try.func38, Try.ntmps38
    go_wp2
    go_ret
    exact ⟨by rw [hc.out]; rfl, rfl⟩
/-! Where a number stands. -/
end Go.Proofs.Ytbcikndebaeahaa

namespace Go.Proofs.Ytbcikndebaeahaa
open Go.ChangeShapes Go.WideShapes Go.ChangeAt Go.RowKit
set_option linter.unusedVariables false
set_option maxRecDepth 4000
set_option linter.unusedSimpArgs false
/-! How a command's bytes say it: at, n, page, bits, none, what must be. -/
/-- a store into a variable: the world behind it stands by itself -/
theorem wpList_storeU {P : Program} {w : World} {ops : Array Oper} {rest : List Oper} {op : Oper} {a : Act} {Q : Exit → Act → World → Prop} (hgd : op.guard = none) (ty : TypeId) (x y : Operand) (ho : op.op = .store ty x y) (g o : Nat) (hx : a.eval x = .pointer (some ⟨g, o, none⟩)) (vs : List Value) (hy : a.eval y = .agg vs.toArray)
    (hi : (P.info? ty).map (·.size) = some vs.length) (h1 : ∀ u ∈ vs, u.oneCell' = true) (t : TypeId) (cs : List Value) (hB : Box w g t cs) (hl : o + vs.length ≤ cs.length)
    (h : ∀ w', Hid (w' = w.setCells g o vs) → wpList P ops Q rest (a.put op.dst undef) w') : wpList P ops Q (op :: rest) a w :=
  wpList_store_mid hgd ty x y ho g o vs.toArray hx hy (by simpa using hB.there o vs.length hl) (by simpa using hi) (all_oneCell_toArray h1) (h _ rfl)
end Go.Proofs.Ytbcikndebaeahaa

namespace Go.Proofs.Ytbcikndebaeahaa
open Go.ChangeShapes Go.WideShapes Go.ChangeAt Go.RowKit
set_option linter.unusedVariables false
set_option maxRecDepth 4000
set_option linter.unusedSimpArgs false
/-! Page: one. -/
/-- bytes lie in no sense -/
theorem Bs.setSns7 {w : World} {v : Value} {l : List UInt8} (h : Bs w v l) {g : Nat} {t : TypeId} {s : Sns} (hB : Box w g t (sc s)) (vs : List Value) (o : Nat) : Bs (w.setCells g o vs) v l := by
  obtain ⟨h1, a, cap, rfl, h2, h3⟩ := h
  refine ⟨h1, a, cap, rfl, h2, ?_⟩
  rcases h3 with h3 | ⟨b, off, rfl, h3⟩
  · exact .inl h3
  · by_cases hl : l = []
    · exact .inl hl
    · have hp : 0 < l.length := List.length_pos_iff.2 hl
      have hne : b ≠ g := by
        intro e
        subst e
        have h4 := h3 0 hp
        rw [hB.cell] at h4
        have := List.mem_of_getElem? h4
        simp [sc] at this
      refine .inr ⟨b, off, rfl, fun j hj => ?_⟩
      have h0 := h3 j hj
      have e := heap_setCells_other w g b hne vs o
      unfold World.cell? at h0 ⊢
      simp only [e]
      exact h0
end Go.Proofs.Ytbcikndebaeahaa

namespace Go.Proofs.Ytbcikndebaeahaa
open Go.ChangeShapes Go.WideShapes Go.ChangeAt Go.RowKit
set_option linter.unusedVariables false
set_option maxRecDepth 4000
set_option linter.unusedSimpArgs false
end Go.Proofs.Ytbcikndebaeahaa

namespace Go.Proofs.Ytbcikndebaeahaa
open Go.ChangeShapes Go.WideShapes Go.ChangeAt Go.RowKit
set_option linter.unusedVariables false
set_option maxRecDepth 4000
set_option linter.unusedSimpArgs false
/-! Page, whatever it is. -/
end Go.Proofs.Ytbcikndebaeahaa

namespace Go.Proofs.Ytbcikndebaeahaa
open Go Go.RowKit
set_option linter.unusedVariables false
set_option maxRecDepth 4000
set_option linter.unusedSimpArgs false
/-! A region that draws its order and stores into memory that is younger than b0: operations that give the same value in every world later than b0 are taken first, wherever the stores stand; a store is taken where it alone may come up. -/
section
variable {P : Program} {ops : Array Oper} {md : Region.Mode} {b0 : World}
end
end Go.Proofs.Ytbcikndebaeahaa

namespace Go.Proofs.Ytbcikndebaeahaa
open Go Go.RowKit
set_option linter.unusedVariables false
set_option maxRecDepth 4000
set_option linter.unusedSimpArgs false
/-! As RegO, with whatever is kept (I) in place of what is later than b0. -/
section
variable {P : Program} {ops : Array Oper} {md : Region.Mode} {I : World → Prop}
/-- a world that keeps I -/
structure Held (I : World → Prop) where
  w : World
  h : I w
def Oper.mildI (P : Program) (I : World → Prop) (o : Oper) (a : Act) (next : Act → Prop) : Prop :=
  ∃ v, (∀ p : Held I, Oper.mildUpon P p.w v ((execOp a.eval o).run P p.w)) ∧ next (a.put o.dst v)
def GivesI (P : Program) (ops : Array Oper) (I : World → Prop) (o : Oper) (v : Value) (a : Act) : Prop :=
  (Region.wanted o (yielded ops a.tmps) = true ∧ ∀ p : Held I, Oper.mildUpon P p.w v ((execOp a.eval o).run P p.w)) ∨
  (Region.wanted o (yielded ops a.tmps) = false ∧ v = undef)
theorem GivesI.of_same {o : Oper} {v : Value} {a a' : Act} (hy : GivesI P ops I o v a) (he : execOp a'.eval o = execOp a.eval o)
    (hw : Region.wanted o (yielded ops a'.tmps) = Region.wanted o (yielded ops a.tmps)) : GivesI P ops I o v a' := by
  unfold GivesI at *
  rw [he, hw]
  exact hy
def Oper.heldUpon (P : Program) (I : World → Prop) (o : Oper) (a : Act) (w : World) (K : Act → World → Prop) : Result Next → Prop
  | .ok (.value u) w' => I w' ∧ K (a.put o.dst u) w'
  | .ok .skip w' => I w' ∧ K (a.put o.dst undef) w'
  | .ok (.enter f args) w' => w' = w ∧ Calls P f args w (fun e w'' => ∃ u, e = .returned u ∧ I w'' ∧ K (a.put o.dst u) w'')
  | _ => False
def jOp (P : Program) (ops : Array Oper) (I : World → Prop) (i : Nat) (K : Act → World → Prop) (a : Act) (w : World) : Prop :=
  match ops[i]? with
  | none => False
  | some o => if Region.wanted o (yielded ops a.tmps) then Oper.heldUpon P I o a w K ((execOp a.eval o).run P w) else K (a.put o.dst undef) w
theorem Oper.heldUpon_mono {o : Oper} {a : Act} {w : World} {K K' : Act → World → Prop} (h : ∀ a w', I w' → K a w' → K' a w') : ∀ r, Oper.heldUpon P I o a w K r → Oper.heldUpon P I o a w K' r
  | .ok (.value u) w', hh => ⟨hh.1, h _ _ hh.1 hh.2⟩
  | .ok .skip w', hh => ⟨hh.1, h _ _ hh.1 hh.2⟩
  | .ok (.enter f args) w', hh => ⟨hh.1, hh.2.mono fun e w'' ⟨u, he, hl, hk⟩ => ⟨u, he, hl, h _ _ hl hk⟩⟩
  | .ok (.defer _) _, hh => hh.elim
  | .ok (.row _ _) _, hh => hh.elim
  | .halt _ _, hh => hh.elim
theorem jOp_mono {i : Nat} {a : Act} {w : World} {K K' : Act → World → Prop} (hw0 : I w) (h : ∀ a w', I w' → K a w' → K' a w') (hh : jOp P ops I i K a w) : jOp P ops I i K' a w := by
  unfold jOp at *
  split
  · rename_i ho; simp [ho] at hh
  · rename_i o ho
    simp only [ho] at hh
    split
    · rename_i hw; simp only [hw, if_true] at hh; exact Oper.heldUpon_mono h _ hh
    · rename_i hw; simp only [hw] at hh; exact h _ _ hw0 hh
def wpH (P : Program) (md : Region.Mode) (ops : Array Oper) (I : World → Prop) (Q : Act → World → Prop) : Nat → Array Bool → Act → World → Prop
  | 0, listed, a, b => Region.ready md ops listed = [] ∧ ∀ w, Later b w → Q a w
  | n + 1, listed, a, b => ∀ w, Later b w → (Region.ready md ops listed = [] → Q a w) ∧ ∀ i ∈ Region.ready md ops listed, jOp P ops I i (fun a' w' => wpH P md ops I Q n (listed.setIfInBounds i true) a' w') a w
theorem wpH_base {Q : Act → World → Prop} {b c : World} (hl : Later b c) : ∀ (n : Nat) (listed : Array Bool) (a : Act), wpH P md ops I Q n listed a b → wpH P md ops I Q n listed a c
  | 0, _, _, h => ⟨h.1, fun w hw => h.2 w (hl.trans hw)⟩
  | _ + 1, _, _, h => fun w hw => h w (hl.trans hw)
theorem wpOp_of_jOp {Q' : Exit → Act → World → Prop} {i : Nat} {a : Act} {w : World} {K : Act → World → Prop} (h : jOp P ops I i K a w) : wpOp P ops Q' i K a w := by
  unfold jOp at h
  unfold wpOp
  split
  · rename_i ho; simp [ho] at h
  · rename_i o ho
    simp only [ho] at h
    split
    · rename_i hw
      simp only [hw, if_true] at h
      refine .inl ?_
      unfold Go.Oper.wp
      generalize (execOp a.eval o).run P w = r at *
      cases r with
      | ok n w' =>
        cases n <;> simp only [Oper.heldUpon] at h <;> simp only [Go.Oper.upon]
        case value u => exact h.2
        case skip => exact h.2
        case enter f args =>
          obtain ⟨rfl, hc⟩ := h
          exact hc.mono fun e w'' ⟨u, he, _, hk⟩ => by subst he; exact hk
      | halt x w' => simp only [Oper.heldUpon] at h
    · rename_i hw; simp only [hw] at h; exact h
theorem wpAny_of_wpH {Q : Act → World → Prop} {Q' : Exit → Act → World → Prop} (hQ : ∀ a w, Q a w → Q' .normal a w) : ∀ (n : Nat) (listed : Array Bool) (a : Act) (w : World), wpH P md ops I Q n listed a w → wpAny P md ops Q' n listed a w
  | 0, _, _, w, h => ⟨h.1, hQ _ _ (h.2 w (Later.refl _))⟩
  | n + 1, _, _, w, h => ⟨fun h0 => hQ _ _ ((h w (Later.refl _)).1 h0), fun i hi => wpOp_mono (fun a' w' h' => wpAny_of_wpH hQ n _ a' w' h') (wpOp_of_jOp ((h w (Later.refl _)).2 i hi))⟩
theorem GivesI.jOp (hI : ∀ w w', Later w w' → I w → I w') {w : World} {i : Nat} {o : Oper} {v : Value} {a : Act} (hi : ops[i]? = some o) (hy : GivesI P ops I o v a) (hw : I w) {K : Act → World → Prop} (h : ∀ w', Later w w' → K (a.put o.dst v) w') : jOp P ops I i K a w := by
  unfold Go.Proofs.Ytbcikndebaeahaa.jOp
  simp only [hi]
  rcases hy with ⟨hwt, hv⟩ | ⟨hwt, rfl⟩
  · simp only [hwt, if_true]
    have hv := hv ⟨w, hw⟩
    generalize (execOp a.eval o).run P w = r at *
    cases r with
    | ok n w' =>
      cases n <;> simp only [Oper.mildUpon] at hv <;> simp only [Oper.heldUpon]
      case value u => obtain ⟨rfl, rfl⟩ := hv; exact ⟨hw, h _ (Later.refl _)⟩
      case skip => obtain ⟨rfl, rfl⟩ := hv; exact ⟨hw, h _ (Later.refl _)⟩
      case enter f args => exact ⟨hv.1, hv.2.mono fun e w'' ⟨he, hl⟩ => ⟨v, he, hI _ _ hl hw, h _ hl⟩⟩
    | halt x w' => simp only [Oper.mildUpon] at hv
  · simp only [hwt, Bool.false_eq_true, if_false]; exact h _ (Later.refl _)
theorem jOp_put {w : World} {j : Nat} {oi oj : Oper} {v : Value} (hj : ops[j]? = some oj) (hap : oi.apart ops oj = true)
    (hsi : ∀ cs d, oi.op ≠ .select cs d) (hsj : ∀ cs d, oj.op ≠ .select cs d) {K : Act → World → Prop} {a : Act}
    (hy : GivesI P ops I oi v a) (h : jOp P ops I j K (a.put oi.dst v) w) :
    jOp P ops I j (fun a' w' => GivesI P ops I oi v a' ∧ K (a'.put oi.dst v) w') a w := by
  obtain ⟨h1, h2, h3⟩ := Oper.apart_spec hap
  have keep : ∀ u, GivesI P ops I oi v (a.put oj.dst u) := fun u => hy.of_same (execOp_put oi hsi a oj.dst u h3) (wanted_put oi a oj.dst u h3)
  unfold Go.Proofs.Ytbcikndebaeahaa.jOp at *
  simp only [hj] at *
  rw [wanted_put oj a oi.dst v h1] at h
  split
  · rename_i hw
    simp only [hw, if_true] at h
    rw [execOp_put oj hsj a oi.dst v h1] at h
    generalize (execOp a.eval oj).run P w = r at *
    cases r with
    | ok n w' =>
      cases n <;> simp only [Oper.heldUpon] at h ⊢
      case value u => exact ⟨h.1, keep u, by rw [← Act.put_comm a v u h2]; exact h.2⟩
      case skip => exact ⟨h.1, keep _, by rw [← Act.put_comm a v undef h2]; exact h.2⟩
      case enter f args => exact ⟨h.1, h.2.mono fun e w'' ⟨u, he, hl, hk⟩ => ⟨u, he, hl, keep u, by rw [← Act.put_comm a v u h2]; exact hk⟩⟩
    | halt x w' => simp only [Oper.heldUpon] at h
  · rename_i hw
    simp only [hw] at h
    exact ⟨keep _, by rw [← Act.put_comm a v undef h2]; exact h⟩
theorem wpH_first (hI : ∀ w w', Later w w' → I w → I w') {Q : Act → World → Prop} {i : Nat} {oi : Oper} {v : Value} (hi : ops[i]? = some oi) (hsel : ∀ (j : Nat) (o : Oper) cs d, ops[j]? = some o → o.op ≠ .select cs d) :
    ∀ (n : Nat) (listed : Array Bool) (a : Act) (b : World), I b →
      (∀ j oj, ops[j]? = some oj → j ≠ i → listed.getD j true = false → (∀ e ∈ oj.after, Region.binds md e = true → e.on ≠ i) → oi.apart ops oj = true) →
      i ∈ Region.ready md ops listed → GivesI P ops I oi v a →
      wpH P md ops I Q n (listed.setIfInBounds i true) (a.put oi.dst v) b → wpH P md ops I Q (n + 1) listed a b := by
  intro n
  induction n with
  | zero =>
    intro listed a b hb _ hr hy H w hw
    refine ⟨fun h => (by rw [h] at hr; cases hr), fun j hj => ?_⟩
    by_cases hji : j = i
    · subst hji; exact hy.jOp hI hi (hI _ _ hw hb) fun w' hw' => wpH_base (hw.trans hw') 0 _ _ H
    · have := ready_mono hj hji
      rw [H.1] at this
      cases this
  | succ n ih =>
    intro listed a b hb hfree hr hy H w hw
    refine ⟨fun h => (by rw [h] at hr; cases hr), fun j hj => ?_⟩
    by_cases hji : j = i
    · subst hji; exact hy.jOp hI hi (hI _ _ hw hb) fun w' hw' => wpH_base (hw.trans hw') (n + 1) _ _ H
    · have h1 := (H w hw).2 j (ready_mono hj hji)
      obtain ⟨hjun, oj, hoj, hall⟩ := mem_ready.1 hj
      have hnot : ∀ e ∈ oj.after, Region.binds md e = true → e.on ≠ i := fun e he hb heq => by
        have h1 := hall e he hb
        have h0 := (mem_ready.1 hr).1
        rw [heq] at h1
        rcases Nat.lt_or_ge i listed.size with h' | h'
        · simp [h'] at h0 h1; rw [h0] at h1; cases h1
        · simp [Array.getElem?_eq_none h'] at h1
      have h2 := jOp_put hoj (hfree j oj hoj hji hjun hnot) (fun cs d => hsel i oi cs d hi) (fun cs d => hsel j oj cs d hoj) hy h1
      have hfree' : ∀ k ok, ops[k]? = some ok → k ≠ i → (listed.setIfInBounds j true).getD k true = false →
          (∀ e ∈ ok.after, Region.binds md e = true → e.on ≠ i) → oi.apart ops ok = true := fun k ok hk hki hun hno => by
        refine hfree k ok hk hki ?_ hno
        by_cases hjk : j = k
        · subst hjk; exact hjun
        · rw [getD_set_ne true hjk] at hun; exact hun
      refine jOp_mono (hI _ _ hw hb) (fun a' w' hl h3 => ih (listed.setIfInBounds j true) a' w' hl hfree' (ready_mono hr (Ne.symm hji)) h3.1 ?_) h2
      rw [Array.setIfInBounds_comm _ _ hji]
      exact h3.2
/-- the walk along one order: false: one value in every world later than b0; true: what alone may come up -/
def wpJ (P : Program) (ops : Array Oper) (I : World → Prop) (Q : Act → World → Prop) : List (Nat × Bool) → Act → World → Prop
  | [], a, b => ∀ w, Later b w → Q a w
  | (i, false) :: σ, a, b => ∃ o, ops[i]? = some o ∧ if Region.wanted o (yielded ops a.tmps) then Oper.mildI P I o a (fun a' => wpJ P ops I Q σ a' b) else wpJ P ops I Q σ (a.put o.dst undef) b
  | (i, true) :: σ, a, b => ∀ w, Later b w → jOp P ops I i (fun a' w' => wpJ P ops I Q σ a' w') a w
theorem wpH_of_wpJ (hI : ∀ w w', Later w w' → I w → I w') {Q : Act → World → Prop} (hs : Region.noSelect ops = true) : ∀ (σ : List (Nat × Bool)) (listed : Array Bool) (a : Act) (b : World), I b → schedB md ops σ listed = true → wpJ P ops I Q σ a b → wpH P md ops I Q σ.length listed a b
  | [], listed, a, b, _, hB, h => ⟨by simpa [schedB] using hB, h⟩
  | (i, false) :: σ, listed, a, b, hb, hB, h => by
    simp only [schedB, Bool.and_eq_true] at hB
    obtain ⟨o, ho, h⟩ := h
    by_cases hw : Region.wanted o (yielded ops a.tmps) = true
    · simp only [hw, if_true] at h
      obtain ⟨v, hv, hk⟩ := h
      exact wpH_first hI ho (Region.noSelect_spec hs) σ.length listed a b hb (Region.free_spec ho hB.1.2) (by simpa using hB.1.1) (.inl ⟨hw, hv⟩) (wpH_of_wpJ hI hs σ _ _ _ hb hB.2 hk)
    · simp only [hw] at h
      exact wpH_first hI ho (Region.noSelect_spec hs) σ.length listed a b hb (Region.free_spec ho hB.1.2) (by simpa using hB.1.1) (.inr ⟨by simpa using hw, rfl⟩) (wpH_of_wpJ hI hs σ _ _ _ hb hB.2 h)
  | (i, true) :: σ, listed, a, b, hb, hB, h => by
    simp only [schedB, Bool.and_eq_true, beq_iff_eq] at hB
    intro w hw
    refine ⟨fun h0 => (by rw [hB.1] at h0; cases h0), fun j hj => ?_⟩
    rw [hB.1] at hj
    simp at hj
    subst hj
    exact jOp_mono (hI _ _ hw hb) (fun a' w' hl h' => wpH_of_wpJ hI hs σ _ a' w' hl hB.2 h') (h w hw)
/-- A REGION THAT DRAWS ITS ORDER and stores into what is younger than b0. -/
theorem wp_region_held {id : Nat} {Q : Exit → Act → World → Prop} {a : Act} {w : World} {l : List Oper} (I : World → Prop) (hI : ∀ w w', Later w w' → I w → I w') (hb : I w) (σ : List (Nat × Bool)) (hm : P.follows .mixedOrders = true) (hs : Region.noSelect l.toArray = true) (hn : (σ.length == l.length) = true)
    (hB : schedB .any l.toArray σ (Array.replicate l.length false) = true)
    (h : wpJ P l.toArray I (fun a' w' => Q .normal a' w') σ a w.drew) : (Code.region id l.toArray true).wp P Q a w := by
  refine wp_region_any hm ?_
  have h1 := wpH_of_wpJ hI (md := .any) hs σ _ a _ (hI _ _ (Later.refl w).drew hb) hB h
  have h2 := wpAny_of_wpH (Q' := Q) (fun _ _ h => h) _ _ _ _ h1
  have e : l.toArray.size = σ.length := by simp at hn; simp [hn]
  rw [e]
  have e2 : l.length = σ.length := by simp at hn; exact hn.symm
  rw [e2] at h2
  exact h2
theorem wpJ_mild {Q : Act → World → Prop} {i : Nat} {o : Oper} {σ : List (Nat × Bool)} {a : Act} {b : World} (ho : ops[i]? = some o)
    (h : ∀ K : Act → Prop, (∀ a', wpJ P ops I Q σ a' b → K a') → if Region.wanted o (yielded ops a.tmps) then Oper.mildI P I o a K else K (a.put o.dst undef)) : wpJ P ops I Q ((i, false) :: σ) a b := by
  refine ⟨o, ho, ?_⟩
  have := h _ (fun _ h => h)
  split
  · rename_i hw; rw [if_pos hw] at this; exact this
  · rename_i hw; rw [if_neg hw] at this; exact this
theorem wpJ_nil {Q : Act → World → Prop} {a : Act} {b : World} (h : ∀ w, Later b w → Q a w) : wpJ P ops I Q [] a b := h
theorem wpJ_call {Q : Act → World → Prop} {i : Nat} {o : Oper} {σ : List (Nat × Bool)} {a : Act} {b : World} (ho : ops[i]? = some o) (hw : Region.wanted o (yielded ops a.tmps) = true) (f : FuncId) (hp : Plain P f) (xs : List Operand) (ts : Array TypeId) (hop : o.op = .call { callee := .value (.func f), args := xs.toArray, argTypes := ts }) (us : List Value) (hx : xs.map a.eval = us)
    (v : Value) (hc : ∀ w, I w → Calls P f us.toArray w fun e w' => e = .returned v ∧ Later w w')
    (h : wpJ P ops I Q σ (a.put o.dst v) b) : wpJ P ops I Q ((i, false) :: σ) a b := by
  refine ⟨o, ho, ?_⟩
  rw [if_pos hw]
  refine ⟨v, fun p => ?_, h⟩
  rw [run_call f hp xs ts hop us hx]
  exact ⟨rfl, hc p.w p.h⟩
/-- a store of many cells, where it alone may come up -/
theorem wpJ_store {Q : Act → World → Prop} {i : Nat} {o : Oper} {σ : List (Nat × Bool)} {a : Act} {b : World} (ho : ops[i]? = some o) (hgd : o.guard = none) (ty : TypeId) (x y : Operand) (hop : o.op = .store ty x y) (g : Nat) (cells : List Value) (hx : a.eval x = .pointer (some ⟨g, 0, none⟩)) (hy : a.eval y = .agg cells.toArray)
    (hi : (P.info? ty).map (·.size) = some cells.length) (h1 : ∀ v ∈ cells, v.oneCell' = true) (t : TypeId) (cs : List Value) (hB : Box b g t cs) (hl : cells.length ≤ cs.length) (hI2 : ∀ w, Later b w → I (w.setCells g 0 cells))
    (h : ∀ wl, Later b wl → ∀ w', Hid (w' = wl.setCells g 0 cells) → wpJ P ops I Q σ (a.put o.dst undef) w') : wpJ P ops I Q ((i, true) :: σ) a b := by
  intro w hw
  unfold jOp
  simp only [ho]
  rw [if_pos (by simp [Region.wanted, hgd])]
  have hBw := hB.later hw
  have hrun := run_storeAt_mid (P := P) w g 0 ty cells.toArray (by simpa using hBw.there 0 cells.length (by omega)) (by simpa using hi) (all_oneCell_toArray h1)
  have hl0 := hI2 w hw
  have h2 := h w hw _ rfl
  simp [execOp, hop, hx, hy, hrun, Result.andThen, Oper.heldUpon]
  exact ⟨hl0, h2⟩
end
attribute [go_sem] Oper.mildI
end Go.Proofs.Ytbcikndebaeahaa

namespace Go.Proofs.Ytbcikndebaeahaa
open Go.ChangeShapes Go.WideShapes Go.ChangeAt Go.RowKit
set_option linter.unusedVariables false
set_option maxRecDepth 4000
set_option linter.unusedSimpArgs false
/-! formOf. -/
end Go.Proofs.Ytbcikndebaeahaa

namespace Go.Proofs.Ytbcikndebaeahaa
open Go.ChangeShapes Go.WideShapes Go.ChangeAt Go.RowKit
set_option linter.unusedVariables false
set_option maxRecDepth 4000
set_option linter.unusedSimpArgs false
/-! allows: is all as it must be? -/
end Go.Proofs.Ytbcikndebaeahaa

namespace Go.Proofs.Ytbcikndebaeahaa
open Go.ChangeShapes Go.WideShapes Go.ChangeAt Go.RowKit
set_option linter.unusedVariables false
set_option maxRecDepth 4000
set_option linter.unusedSimpArgs false
/-! read: the command that the bytes say. -/
abbrev Cmd := Int × Nat × Int × Int × Int
abbrev cc (c : Cmd) : List Value := [.int .i64 c.1, .int .u64 (c.2.1 : Int), .int .i64 c.2.2.1, .int .i64 c.2.2.2.1, .int .i64 c.2.2.2.2]
abbrev cval (c : Cmd) : Value := .agg #[.int .i64 c.1, .int .u64 (c.2.1 : Int), .int .i64 c.2.2.1, .int .i64 c.2.2.2.1, .int .i64 c.2.2.2.2]
end Go.Proofs.Ytbcikndebaeahaa

namespace Go.Proofs.Ytbcikndebaeahaa
open Go.ChangeShapes Go.WideShapes Go.ChangeAt Go.RowKit
set_option linter.unusedVariables false
set_option maxRecDepth 4000
set_option linter.unusedSimpArgs false
/-! Known, Size. -/
end Go.Proofs.Ytbcikndebaeahaa

namespace Go.Proofs.Ytbcikndebaeahaa
open Go.ChangeShapes Go.WideShapes Go.ChangeAt Go.RowKit
set_option linter.unusedVariables false
set_option maxRecDepth 4000
set_option linter.unusedSimpArgs false
/-! Parse. -/
theorem Box.apart {w : World} {g : Nat} {t : TypeId} {xs : List Value} (h : Box w g t xs) (k : Nat) (hk : g ≠ k) (vs : List Value) (o : Nat) : Box (w.setCells k o vs) g t xs := h.kept (heap_setCells_other w k g hk vs o)
end Go.Proofs.Ytbcikndebaeahaa

namespace Go.Proofs.Ytbcikndebaeahaa
open Go.ChangeShapes Go.WideShapes Go.ChangeAt Go.RowKit
set_option linter.unusedVariables false
set_option maxRecDepth 4000
set_option linter.unusedSimpArgs false
/-- the cached writes laid over the blocks, one behind the other -/
def app (F : List UInt8) (D : List Drt) : List UInt8 := D.foldl (fun F d => over F (d.1.toNat * 64) d.2) F
theorem app_snoc (F : List UInt8) (D : List Drt) (d : Drt) : app F (D ++ [d]) = over (app F D) (d.1.toNat * 64) d.2 := by simp [app]
def Fit (n : Nat) (D : List Drt) : Prop := ∀ d ∈ D, d.2.length = 64 ∧ 0 ≤ d.1 ∧ d.1 < n
theorem app_length (n : Nat) : ∀ (D : List Drt) (F : List UInt8), F.length = n * 64 → Fit n D → (app F D).length = n * 64
  | [], F, hF, _ => by simpa [app] using hF
  | d :: D, F, hF, h => by
    have hd := h d (by simp)
    show (app (over F (d.1.toNat * 64) d.2) D).length = n * 64
    exact app_length n D _ (by rw [over_length _ _ _ (by rw [hF, hd.1]; omega), hF]) fun x hx => h x (by simp [hx])
theorem fit_of_right {n : Nat} {D : List Drt} (h : rightB n D = true) (ho : Ok D) : Fit n D := fun d hd => by
  simp only [rightB, decide_eq_true_eq] at h
  exact ⟨(ho d hd).1, (h.2.2 d hd).1, (h.2.2 d hd).2⟩
def allF (n : Nat) (F : List UInt8) (D : List Drt) : List UInt8 := if rightB n D then app F D else []
def allN (n : Nat) (D : List Drt) : Nat := if rightB n D then n else 0
set_option maxHeartbeats 1000000 in
theorem rall_c {v : Value} {n : Nat} {F : List UInt8} {D : List Drt} (w : World) (h : Med w v n F D) :
    Calls Try.prog 22 #[v] w fun e w' => ∃ v', e = .returned v' ∧ Later w w' ∧ w'.ownsRow w.heap.size 58 64 v' (allN n D) (bv (allF n F D)) := by
  have HM := hide h
  obtain ⟨vb, vd, rfl, hb, hd, hok⟩ := h
  obtain ⟨ab, cb, rfl⟩ := hb.shape
  obtain ⟨k, hk⟩ : ∃ k, k = D.length := ⟨_, rfl⟩
  rw [← hk] at hd
  obtain ⟨aD, cD, rfl⟩ := hd.shape
  have hkm := hd.2.1
  unfold maxLen at hkm
  have HB := hide hb
  have HD := hide hd
  have HK := hide hk
  have HO := hide hok
  clear hb hd hk hok
  have BX0 := hide (Box.new w 25 #[.slice ab n cb, .slice aD k cD])
  have L0 := hide ((Later.refl w).alloc (.cells #[.slice ab n cb, .slice aD k cD] 25))
  go_enter Try.func22, Try.ntmps22
  go_wp2_with fail
  generalize (w.alloc (.cells #[.slice ab n cb, .slice aD k cD] 25)) = w1 at *
  refine (rright_c w1 (HM.out.later L0.out)).mono ?_
  rintro e w2 ⟨rfl, hl2⟩
  have L2 := hide (L0.out.trans hl2)
  have BX := hide (Box.later BX0.out hl2)
  clear hl2 L0 BX0
  have d0 := BX.out.cell 0
  have d1 := BX.out.cell 1
  by_cases hR : rightB n D = true
  case neg =>
    have hR' : rightB n D = false := by simpa using hR
    rw [hR']
    go_wp2
    go_ret
    refine ⟨_, rfl, L2.out, ?_⟩
    simp only [allN, allF, hR']
    exact World.ownsRow_nil _ _ _ _
  rw [hR]
  have hfit := hide (fit_of_right hR HO.out)
  have hn64 : n ≤ 64 := by simp only [rightB, decide_eq_true_eq] at hR; exact hR.1
  go_wp2_with fail
  refine (rcopy_c w2 w2.heap.size (Nat.le_refl _) (HB.out.later L2.out) (by omega)).mono ?_
  rintro e w3 ⟨v3, rfl, hl3, ho3⟩
  have L3 := hide hl3
  have O3 := hide ho3
  clear hl3 ho3 d0 d1
  have d0 := (Box.later BX.out L3.out).cell 0
  have d1 := (Box.later BX.out L3.out).cell 1
  go_wp2_with fail
  go_loopw [4] (fun i wr => ∃ q : Nat, q ≤ k ∧ i = .int .i64 q ∧ Hid (Later w2 wr) ∧ Hid (wr.ownsRow w2.heap.size 58 64 v3 n (bv (app F (D.take q))))) (fun i _ => k - (intOf i).toNat)
  case atStart => exact ⟨0, Nat.zero_le _, rfl, L3, by simpa [app] using O3⟩
  case round =>
    clear d0 d1
    obtain ⟨q, hq, rfl, hl, ho⟩ := hrel
    have d0 := (Box.later BX.out hl.out).cell 0
    have d1 := (Box.later BX.out hl.out).cell 1
    by_cases hlt : q < k
    · have hqD : q < D.length := by have := HK.out; omega
      have hdq := hfit.out D[q] (List.getElem_mem hqD)
      obtain ⟨z, hz⟩ := Int.eq_ofNat_of_zero_le hdq.2.1
      have hzn : z < n := by have := hdq.2.2; omega
      obtain ⟨bD, oD, e, hr⟩ := (HD.out.later (L2.out.trans hl.out)).lies? (by omega)
      subst e
      have hra := range_part hr (q * 65) 65
      rw [dv_part D q hqD HO.out] at hra
      have hat := hr _ _ (dv_at D q hqD HO.out)
      rw [hz] at hat
      have hrd := hide (range_tail hra)
      have hdl := hide hdq.1
      obtain ⟨g, capg, e, hg⟩ := owns_head ho.out (by omega)
      subst e
      have happ : Hid (app F (D.take (q + 1)) = over (app F (D.take q)) (z * 64) D[q].2) := by
        unfold Hid
        rw [List.take_succ_eq_append_getElem hqD, app_snoc, hz]
        rfl
      have hlenA : Hid ((app F (D.take q)).length = n * 64) := by
        refine app_length n _ F ?_ fun x hx => hfit.out x (List.mem_of_mem_take hx)
        have := HB.out.1
        rwa [bv_length] at this
      generalize D[q].2 = X at *
      clear hra hr hdq hz
      have g1 := fun r => (Box.later BX.out (hl.out.trans ((Later.refl wr).drew.trans (later_rg wr.drew r)))).cell 1
      have g2 := fun r => ((Later.refl wr).drew.trans (later_rg wr.drew r)).cellOf hat
      go_wp2_with fail
      refine wp_region_tree [0, 1, 2, 3, 4, 5, 6, 7, 8, 9, 10, 11, 12, 13] [] [14] (by kernel_rfl) (by kernel_rfl) (by kernel_rfl) (by kernel_rfl) ?_
      iterate 12 (refine wpT_mild rfl (fun K hK => ?_); go_simp; refine hK _ ?_; clear hK K)
      refine wpT_loadG rfl (by kernel_rfl) 58 (.tmp 29) rfl bD (oD + q * 65 + 1) rfl (bv X) _ ((World.rangeAt_drew _ _ _ _).2 hrd.out) Try.underlying58 rfl (by rw [Try.info_block, bv_length, hdl.out]) ?_
      iterate 1 (refine wpT_mild rfl (fun K hK => ?_); go_simp; refine hK _ ?_; clear hK K)
      refine wpT_done (fun wx hwx => ?_)
      have ox := owns_later ho.out ((Later.refl wr).drew.trans hwx)
      have hlx : Later w2 wx := hl.out.drew.trans hwx
      have ht : wx.there g (z * 64) (bv X).length := by
        rw [bv_length, hdl.out]
        exact owns_there ox (z * 64) 64 (by omega)
      have hnew := (owns_setCells ox (bv X) (z * 64) (by rw [bv_length, hdl.out]; omega)).1
      have hlnew : Later w2 (wx.setCells g (z * 64) (bv X)) := hlx.setCells hg (bv X) (z * 64)
      rw [← bv_over, ← happ.out] at hnew
      refine wpL_store rfl (by kernel_rfl) 58 (.tmp 31) (.tmp 30) rfl g (z * 64) (bv X) rfl rfl ht (by rw [Try.info_block, bv_length, hdl.out]) (bv_one X) (wpL_nil ?_)
      have NL := hide hlnew
      have NO := hide hnew
      clear hnew hlnew ht hlx ox hwx g1 g2 hat hrd hdl happ hlenA d0 d1
      generalize wx.setCells g (z * 64) (bv X) = wz at *
      go_wp2
      go_roundw
      case rel => exact ⟨q + 1, by omega, by go_num, NL, NO⟩
      case measure => simp [intOf]; omega
    · have hkq : q = k := by omega
      go_wp2
      go_ret
      refine ⟨_, rfl, L2.out.trans hl.out, ?_⟩
      have := ho.out
      rw [hkq, HK.out, List.take_length] at this
      simp only [allN, allF, hR, if_true]
      exact this.mono L2.out.size
end Go.Proofs.Ytbcikndebaeahaa

namespace Go.Proofs.Ytbcikndebaeahaa
open Go.ChangeShapes Go.WideShapes Go.ChangeAt Go.RowKit
set_option linter.unusedVariables false
set_option maxRecDepth 4000
set_option linter.unusedSimpArgs false
def showE (n : Nat) (D : List Drt) (at_ : Int) : Int := if rightB n D then (if 0 ≤ at_ ∧ at_ < n then 0 else 5) else 1
end Go.Proofs.Ytbcikndebaeahaa
