import Derived.Test.YtfakboehmcimpaaGreatMAB
namespace Go.Proofs.YtfakboehmcimpaaGreat
open Go.ChangeShapes Go.WideShapes Go.ChangeAt Go.RowKit
set_option linter.unusedVariables false
set_option maxRecDepth 4000
set_option linter.unusedSimpArgs false
/-! Media: blocks as flat bytes, the cached writes as a list of places and bytes. -/
abbrev Drt := Int × List UInt8
def dv (D : List Drt) : List Value := D.flatMap fun d => .int .i64 d.1 :: bv d.2
def Ok (D : List Drt) : Prop := ∀ d ∈ D, d.2.length = 64 ∧ -9223372036854775808 ≤ d.1 ∧ d.1 ≤ 9223372036854775807
def Med (w : World) (v : Value) (n : Nat) (F : List UInt8) (D : List Drt) : Prop :=
  ∃ vb vd, v = .agg #[vb, vd] ∧ Rw 64 w vb n (bv F) ∧ Rw 65 w vd D.length (dv D) ∧ Ok D
theorem dv_cons (d : Drt) (D : List Drt) : dv (d :: D) = (.int .i64 d.1 :: bv d.2) ++ dv D := by simp [dv]
theorem dv_append (D E : List Drt) : dv (D ++ E) = dv D ++ dv E := by simp [dv]
theorem dv_one (D : List Drt) : ∀ u ∈ dv D, u.oneCell' = true := by
  intro u hu
  simp only [dv, List.mem_flatMap] at hu
  obtain ⟨d, _, hd⟩ := hu
  rcases List.mem_cons.1 hd with rfl | h
  · rfl
  · exact bv_one _ u h
theorem Ok.tail {d : Drt} {D : List Drt} (h : Ok (d :: D)) : Ok D := fun x hx => h x (by simp [hx])
theorem dv_drop : ∀ (D : List Drt) (k : Nat), Ok D → (dv D).drop (k * 65) = dv (D.drop k)
  | D, 0, _ => by simp
  | [], k + 1, _ => by simp [dv]
  | d :: D, k + 1, h => by
    have hl : (Value.int .i64 d.1 :: bv d.2).length = 65 := by simp [bv_length, (h d (by simp)).1]
    rw [dv_cons, List.drop_succ_cons, ← dv_drop D k h.tail, List.drop_append, hl, List.drop_of_length_le (by omega), List.nil_append]
    congr 1; omega
theorem dv_part (D : List Drt) (k : Nat) (hk : k < D.length) (h : Ok D) : ((dv D).drop (k * 65)).take 65 = .int .i64 D[k].1 :: bv D[k].2 := by
  have hl : (Value.int .i64 D[k].1 :: bv D[k].2).length = 65 := by simp [bv_length, (h D[k] (List.getElem_mem hk)).1]
  rw [dv_drop D k h, List.drop_eq_getElem_cons hk, dv_cons]
  have := List.take_left (l₁ := Value.int .i64 D[k].1 :: bv D[k].2) (l₂ := dv (D.drop (k + 1)))
  rw [hl] at this
  exact this
theorem dv_at (D : List Drt) (k : Nat) (hk : k < D.length) (h : Ok D) : (dv D)[k * 65]? = some (.int .i64 D[k].1) := by
  have := dv_part D k hk h
  have h2 := congrArg (fun l : List Value => l[0]?) this
  simpa [List.getElem?_take, List.getElem?_drop] using h2
def rightB (n : Nat) (D : List Drt) : Bool := decide (n ≤ 64 ∧ D.length ≤ 64 ∧ ∀ d ∈ D, 0 ≤ d.1 ∧ d.1 < n)
set_option maxHeartbeats 1000000 in
theorem rright_c {v : Value} {n : Nat} {F : List UInt8} {D : List Drt} (w : World) (h : Med w v n F D) :
    Calls Tryz.prog 77 #[v] w fun e w' => e = .returned (.bool (rightB n D)) ∧ Later w w' := by
  obtain ⟨vb, vd, rfl, hb, hd, hok⟩ := h
  obtain ⟨ab, cb, rfl⟩ := hb.shape
  obtain ⟨k, hk⟩ : ∃ k, k = D.length := ⟨_, rfl⟩
  rw [← hk] at hd
  obtain ⟨aD, cD, rfl⟩ := hd.shape
  have hn := hb.2.1
  have hkm := hd.2.1
  unfold maxLen at hn hkm
  have HD := hide hd
  have HK := hide hk
  have HO := hide hok
  clear hb hd hk hok
  have BX0 := hide (Box.new w 25 #[.slice ab n cb, .slice aD k cD])
  have L0 := hide ((Later.refl w).alloc (.cells #[.slice ab n cb, .slice aD k cD] 25))
  by_cases h1 : 64 < n
  · go_enter Tryz.func77, Tryz.ntmps77
    go_wp2
    go_ret
    exact ⟨ret_bool (by simp [rightB]; omega), L0.out⟩
  by_cases h2 : 64 < k
  · go_enter Tryz.func77, Tryz.ntmps77
    go_wp2
    go_ret
    exact ⟨ret_bool (by have := HK.out; simp [rightB]; omega), L0.out⟩
  go_enter Tryz.func77, Tryz.ntmps77
  go_wp2_with fail
  go_loopw [3] (fun i wr => ∃ q : Nat, q ≤ k ∧ i = .int .i64 q ∧ Hid (∀ j (hj : j < D.length), j < q → 0 ≤ D[j].1 ∧ D[j].1 < n) ∧ Hid (Box wr w.heap.size 25 [.slice ab n cb, .slice aD k cD]) ∧ Hid (Later w wr)) (fun i _ => k - (intOf i).toNat)
  case atStart => exact ⟨0, Nat.zero_le _, rfl, fun _ _ h => by omega, BX0, L0⟩
  case round =>
    clear BX0 L0
    obtain ⟨q, hq, rfl, hall, hbx, hl⟩ := hrel
    by_cases hlt : q < k
    · obtain ⟨bD, oD, e, hr⟩ := (HD.out.later hl.out).lies? (by omega)
      subst e
      have hqD : q < D.length := by have := HK.out; omega
      have hz := HO.out D[q] (List.getElem_mem hqD)
      have hcell := hr _ _ (dv_at D q hqD HO.out)
      have hin : Hid (∀ z, z = D[q].1 → (0 ≤ z ∧ z < n) → ∀ j (hj : j < D.length), j < q + 1 → 0 ≤ D[j].1 ∧ D[j].1 < n) := by
        intro z hz1 hz2 j hj hjq
        by_cases hjq' : j = q
        · subst hjq'; rw [← hz1]; exact hz2
        · exact hall.out j hj (by omega)
      have hno : Hid (∀ z, z = D[q].1 → ¬ (0 ≤ z ∧ z < n) → rightB n D = false) := by
        intro z hz1 hz2
        simp only [rightB, decide_eq_false_iff_not]
        intro ⟨_, _, h⟩
        exact hz2 (by rw [hz1]; exact h _ (List.getElem_mem hqD))
      generalize hzz : D[q].1 = z at *
      have HZ := hide hzz.symm
      have hzb := hz.2
      clear hzz hz hall hr
      have hc0 := fun r => (Box.later hbx.out ((Later.refl wr).drew.trans (later_rg wr.drew r))).cell 0
      have hc1 := fun r => (Box.later hbx.out ((Later.refl wr).drew.trans (later_rg wr.drew r))).cell 1
      have hc2 := fun r => ((Later.refl wr).drew.trans (later_rg wr.drew r)).cellOf hcell
      have hd0 := hbx.out.cell 0
      have hd1 := hbx.out.cell 1
      go_wp2_with fail
      refine wp_region_sched ((List.range 19).map fun i => (i, false)) (by kernel_rfl) (by kernel_rfl) (by kernel_rfl) (by kernel_rfl) ?_
      simp only [List.range, List.range.loop, List.map]
      by_cases c1 : z < 0
      · iterate 19 (refine wpS_mild rfl (fun K hK => ?_); go_simp; refine hK _ ?_; clear hK K)
        refine wpS_nil (fun wx hwx => ?_)
        have Lx := hide (hl.out.drew.trans hwx)
        clear hc0 hc1 hc2 hd0 hd1 hcell hwx
        go_wp2
        go_ret
        exact ⟨ret_bool (hno.out z rfl (by omega)).symm, Lx.out⟩
      · by_cases c2 : (n : Int) ≤ z
        · iterate 19 (refine wpS_mild rfl (fun K hK => ?_); go_simp; refine hK _ ?_; clear hK K)
          refine wpS_nil (fun wx hwx => ?_)
          have Lx := hide (hl.out.drew.trans hwx)
          clear hc0 hc1 hc2 hd0 hd1 hcell hwx
          go_wp2
          go_ret
          exact ⟨ret_bool (hno.out z rfl (by omega)).symm, Lx.out⟩
        · iterate 19 (refine wpS_mild rfl (fun K hK => ?_); go_simp; refine hK _ ?_; clear hK K)
          refine wpS_nil (fun wx hwx => ?_)
          have Lx := hide (hl.out.drew.trans hwx)
          have Bx := hide (Box.later hbx.out ((Later.refl wr).drew.trans hwx))
          clear hc0 hc1 hc2 hd0 hd1 hcell hwx
          go_wp2
          go_roundw
          case rel => exact ⟨q + 1, by omega, by go_num, hin.out z rfl (by omega), Bx, Lx⟩
          case measure => simp [intOf]; omega
    · have hd1 := hbx.out.cell 1
      go_wp2
      go_ret
      refine ⟨ret_bool ?_, hl.out⟩
      have hk := HK.out
      symm
      simp only [rightB, decide_eq_true_eq]
      refine ⟨by omega, by omega, fun d hd => ?_⟩
      obtain ⟨j, hj, rfl⟩ := List.mem_iff_getElem.1 hd
      exact hall.out j hj (by omega)
end Go.Proofs.YtfakboehmcimpaaGreat

namespace Go.Proofs.YtfakboehmcimpaaGreat
open Go.ChangeShapes Go.WideShapes Go.ChangeAt Go.RowKit
set_option linter.unusedVariables false
set_option maxRecDepth 4000
set_option linter.unusedSimpArgs false
/-! What the landed code does besides: copies of whole elements, makes with room, cuts by a number of whatever kind. -/
theorem run_copy_rw {P : Program} {w : World} {T T' e ty : TypeId} {sz : Nat} (hu : P.underlying T = some (.slice e)) (hs : (P.info? e).map (·.size) = some sz)
    (dp : Option Addr) (dn dcap : Nat) {u : Value} {m : Nat} {ys : List Value} (hr : Rw sz w u m ys) (h1 : ∀ q ∈ ys, q.oneCell' = true) (hm : m ≤ dn)
    {B g n cap off : Nat} {xs : List Value} (hown : w.ownsRow B e sz (.slice (some ⟨g, 0, none⟩) n cap) n xs) (hoff : off + m * sz ≤ n * sz) (hdp : m = 0 ∨ dp = some ⟨g, off, none⟩) :
    (Builtin.copy_ #[T, T'] ty #[.slice dp dn dcap, u]).run P w = .ok (goInt m) (w.setCells g off ys) := by
  obtain ⟨hl, hmm, a, c, rfl, hc, hr⟩ := hr
  cases hq : P.info? e with
  | none => simp [hq] at hs
  | some i =>
    have hi : i.size = sz := by simpa [hq] using hs
    have hmin : Nat.min m dn = m := Nat.min_eq_left hm
    by_cases h0 : m = 0
    · subst h0
      have : ys = [] := List.eq_nil_of_length_eq_zero (by rw [hl]; simp)
      subst this
      have hl0 : ∀ x : Addr, (loadCells x 0).run P w = .ok #[] w := fun x => run_loadCells_list (P := P) w x [] (fun j v hv => by simp at hv)
      cases a <;> cases dp <;> simp [hl0, Builtin.copy_, run_underlying hu, Builtin.lenOf, Builtin.firstCells, sizeOf, typeInfo, hq, hi, storeCells, World.setCells]
    · rcases hr with h | ⟨b, o, rfl, hr⟩
      · exact absurd h h0
      · rcases hdp with h | rfl
        · exact absurd h h0
        · have hld : (loadCells ⟨b, o, none⟩ (m * sz)).run P w = .ok ys.toArray w := by
            rw [← hl]; exact run_loadCells_list (P := P) w ⟨b, o, none⟩ ys (fun j v hv => by rw [Addr.add_mid]; exact hr j v hv)
          have hth := owns_there hown off (m * sz) hoff
          have hst := run_storeCells_cells (P := P) g off ys 0 w (fun j hj => by simpa using (hth j (by omega)).1) (fun j hj => by simpa using (hth j (by omega)).2) h1
          simp only [Nat.add_zero] at hst
          simp [Builtin.copy_, run_underlying hu, Builtin.lenOf, Builtin.firstCells, sizeOf, typeInfo, hq, hi, hmin, hld, hst]
theorem below_setCells {B : Nat} {w0 w : World} (h : Below B w0 w) {g : Nat} (hg : B ≤ g) : ∀ (vs : List Value) (o : Nat), Below B w0 (w.setCells g o vs) := by
  intro vs
  induction vs generalizing w with
  | nil => intro o; exact h
  | cons v vs ih => intro o; rw [World.setCells]; exact ih (Below.setCell h hg v) (o + 1)
theorem setCells_others (g : Nat) : ∀ (vs : List Value) (o : Nat) (w1 : World), (∀ k, k ≠ g → (w1.setCells g o vs).heap[k]? = w1.heap[k]?) ∧ (w1.setCells g o vs).heap.size = w1.heap.size := by
  intro vs
  induction vs with
  | nil => intro o w1; exact ⟨fun _ _ => rfl, rfl⟩
  | cons v vs ih =>
    intro o w1
    rw [World.setCells]
    have := ih (o + 1) (w1.setCell ⟨g, o, none⟩ v)
    exact ⟨fun k hk => (this.1 k hk).trans (heap_setCell_other w1 ⟨g, o, none⟩ k v hk), this.2.trans (by simp [World.setCell])⟩
/-- cells laid over others from a place on -/
def laid (xs : List Value) (off : Nat) (ys : List Value) : List Value := xs.take off ++ ys ++ xs.drop (off + ys.length)
theorem laid_bv (F : List UInt8) (o : Nat) (l : List UInt8) : laid (bv F) o (bv l) = bv (over F o l) := (bv_over F o l).symm
theorem wpList_copy_rw {P : Program} {w : World} {ops : Array Oper} {rest : List Oper} {o : Oper} {a : Act} {Q : Exit → Act → World → Prop} {T T' e : TypeId} {sz : Nat} (hu : P.underlying T = some (.slice e)) (hs : (P.info? e).map (·.size) = some sz)
    (hgd : o.guard = none) (d s : Operand) (ho : o.op = .call { callee := .builtin .copy, args := #[d, s], argTypes := #[T, T'] })
    (dp : Option Addr) (dn dcap : Nat) (hd : a.eval d = .slice dp dn dcap) (u : Value) (m : Nat) (ys : List Value) (hx : a.eval s = u) (hr : Rw sz w u m ys) (h1 : ∀ q ∈ ys, q.oneCell' = true) (hm : m ≤ dn)
    (B g n cap off : Nat) (xs : List Value) (hown : w.ownsRow B e sz (.slice (some ⟨g, 0, none⟩) n cap) n xs) (hoff : off + m * sz ≤ n * sz) (hdp : m = 0 ∨ dp = some ⟨g, off, none⟩)
    (w0 : World) (hb : Below B w0 w) (hBg : B ≤ g)
    (h : ∀ w', w'.ownsRow B e sz (.slice (some ⟨g, 0, none⟩) n cap) n (laid xs off ys) → Below B w0 w' → (∀ k, k ≠ g → w'.heap[k]? = w.heap[k]?) → w'.heap.size = w.heap.size → wpList P ops Q rest (a.put o.dst (.int .i64 (m : Int))) w') : wpList P ops Q (o :: rest) a w := by
  refine wpList_plain hgd fun K hK => ?_
  have hrun := run_copy_rw (ty := o.type) (T' := T') hu hs dp dn dcap hr h1 hm hown hoff hdp
  unfold Go.Oper.wp
  simp [execOp, ho, resolve, invoke, builtin, hd, hx, hrun, Result.andThen]
  have hk := setCells_others g ys off w
  refine hK _ _ (h _ (owns_setCells hown ys off (by rw [hr.1]; exact hoff)).1 (below_setCells hb hBg ys off) hk.1 hk.2)
/-- 'make([]T, 0, n)' -/
theorem wpList_make_room {P : Program} {w : World} {ops : Array Oper} {rest : List Oper} {o : Oper} {a : Act} {Q : Exit → Act → World → Prop} {e : TypeId} {sz bytes : Nat} {z : Value} (he : Elem P e sz bytes z)
    (hg : o.guard = none) (l c : Operand) (t : TypeId) (hop : o.op = Op.makeSlice t l c) (h1 : P.underlying t = some (.slice e)) (C : Int) (n : Nat) (hl : a.eval l = .int .i64 0) (hc : a.eval c = .int .i64 C) (hC : C = (n : Int))
    (b2 : bytes * n ≤ 281474976710656) (b3 : n ≤ maxLen)
    (hK : ∀ w', w'.ownsRow w.heap.size e sz (.slice (some ⟨w.heap.size, 0, none⟩) 0 n) 0 [] → Later w w' → wpList P ops Q rest (a.put o.dst (.slice (some ⟨w.heap.size, 0, none⟩) 0 n)) w') :
    wpList P ops Q (o :: rest) a w := by
  obtain ⟨i0, hi, hz0, hz1, hz2⟩ := he
  refine wpList_make_own w hg l c t hop w.heap.size e i0 z sz h1 hi hz0 hz1 .i64 .i64 C n hl hc hC (by rw [hz2]; exact b2) b3 (Nat.le_refl _) ?_
  intro w' ho hgr
  exact hK w' ho (Below.grown0 hgr)
theorem owns_rebase {w : World} {B B' : Nat} {e : TypeId} {sz : Nat} {v : Value} {n : Nat} {xs : List Value} (h : w.ownsRow B e sz v n xs) (hb : B' ≤ B) : w.ownsRow B' e sz v n xs := by
  refine ⟨h.1, ?_⟩
  rcases h.2 with hn | ⟨g, cap, cur, rfl, hbg, rest⟩
  · exact .inl hn
  · exact .inr ⟨g, cap, cur, rfl, Nat.le_trans hb hbg, rest⟩
/-- an element of an array's value -/
theorem run_index_arr {P : Program} (w : World) (t e : TypeId) (n : Nat) {k0 : IntKind} (ht : P.underlying t = some (.array n e)) (he : P.underlying e = some (.int k0)) (hs : (P.info? e).map (·.size) = some 1) (cs : Array Value) (k : IntKind) (j : Nat) (hj : j < n) (v : Value) (hv : cs[j]? = some v) :
    (Instr.index t (.agg cs) (.int k (j : Int))).run P w = .ok v w := by
  have hagg : (isAgg e).run P w = .ok false w := by
    unfold isAgg
    rw [Sem.run_bind, run_underlying he w]
    simp
  have hj' : ((j : Int) < (n : Int)) := by omega
  simp [Instr.index, asIntOf, run_underlying ht, run_size hs, part, hagg, hj', hj, hv]
theorem over_full (F l : List UInt8) (h : F.length = l.length) : over F 0 l = l := by
  simp [over, List.drop_of_length_le (show F.length ≤ l.length by omega)]
end Go.Proofs.YtfakboehmcimpaaGreat
