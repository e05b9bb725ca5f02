import Derived.Laws.Runes
import Derived.Deep.AppendSrc
import Derived.Test.YtfakboehmcimpaaGreatWR10g
import Derived.Test.YtfakboehmcimpaaGreatMAL
import Derived.Test.YtfakboehmcimpaaGreatMAQ
namespace Go.Proofs.YtfakboehmcimpaaGreat
open Go.ChangeShapes Go.WideShapes Go.ChangeAt Go.RowKit
set_option linter.unusedVariables false
set_option maxRecDepth 4000
set_option linter.unusedSimpArgs false
/-! The document's job: Copy. -/
theorem Tryz.info1_senses : (Tryz.prog.info? 28).map (·.size) = some 1 := by kernel_rfl
set_option maxHeartbeats 4000000 in
theorem rcopy10_c {u : Value} {n : Nat} {F : List UInt8} {D : List Drt} {p r l cc : Bool} {am : Option Addr} {m cm : Nat} {s : Sns} {M : List Sns} (w : World) (hU : Un w u n F D p r l cc am m cm s) (hA : Sl w (.slice am m cm) M) (hn : n ≤ 1000) (hD : D.length ≤ 1000) (hm : m ≤ 1000) :
    Calls Tryz.prog 6 #[u] w fun e w' => ∃ u' am' cm', e = .returned u' ∧ Later w w' ∧ Un w' u' n F D p r l cc am' m cm' s ∧ Sl w' (.slice am' m cm') M := by
  obtain ⟨ab, cb, aD, k, cD, rfl, hm1⟩ := hU
  have HM := hide hm1
  have HA := hide hA
  clear hm1 hA
  have BX := hide ((Box.new w 32 (uc ab n cb aD k cD p r l cc am m cm s).toArray).alloc (.cells #[.slice none 0 0, .slice none 0 0, .bool false, .bool false, .bool false, .bool false, .slice none 0 0, .int .i64 0, .int .i64 0, .int .i64 0] 32))
  have BR : Hid (Box _ (w.heap.size + 1) 32 (uc none 0 0 none 0 0 false false false false none 0 0 (0, 0, 0))) := Box.new' (w.alloc (.cells (uc ab n cb aD k cD p r l cc am m cm s).toArray 32)) 32 #[.slice none 0 0, .slice none 0 0, .bool false, .bool false, .bool false, .bool false, .slice none 0 0, .int .i64 0, .int .i64 0, .int .i64 0] _ rfl _ (by simp)
  have LL := hide (((Later.refl w).alloc (.cells (uc ab n cb aD k cD p r l cc am m cm s).toArray 32)).alloc (.cells #[.slice none 0 0, .slice none 0 0, .bool false, .bool false, .bool false, .bool false, .slice none 0 0, .int .i64 0, .int .i64 0, .int .i64 0] 32))
  have x_0 := BX.out.cell 0
  have x_1 := BX.out.cell 1
  have x_2 := BX.out.cell 2
  have x_3 := BX.out.cell 3
  have x_4 := BX.out.cell 4
  have x_5 := BX.out.cell 5
  have x_6 := BX.out.cell 6
  have x_7 := BX.out.cell 7
  have x_8 := BX.out.cell 8
  have x_9 := BX.out.cell 9
  go_enter Tryz.func6, Tryz.ntmps6
  go_wp2_with fail
  generalize (w.alloc (.cells (uc ab n cb aD k cD p r l cc am m cm s).toArray 32)).alloc (.cells #[.slice none 0 0, .slice none 0 0, .bool false, .bool false, .bool false, .bool false, .slice none 0 0, .int .i64 0, .int .i64 0, .int .i64 0] 32) = w1 at *
  refine (rcopy5_c _ (show Slt w1 (.agg #[.slice ab n cb, .slice aD k cD, .bool p, .bool r, .bool l]) n F D p r l from ⟨_, _, _, _, _, rfl, HM.out.later LL.out⟩) hn hD).mono ?_
  rintro e w2 ⟨v', rfl, hl, a2, c2, b2, k2, d2, rfl, hm2⟩
  replace HM := hide hm2
  have HA2 := hide (show Sl w2 (.slice am m cm) M from ⟨HA.out.1.later (LL.out.trans hl), HA.out.2⟩)
  have HOff := hide (HA.out.1.old (by decide) (Nat.le_refl w.heap.size))
  replace LL := hide (LL.out.trans hl)
  replace BX := hide (BX.out.later hl)
  replace BR := hide (BR.out.later hl)
  clear hl hm2 HA
  clear x_0 x_1 x_2 x_3 x_4 x_5 x_6 x_7 x_8 x_9
  go_wp2_with (refine wpList_storeU rfl 27 (.tmp 6) (.tmp 5) rfl w.heap.size 0 rfl (tc (.slice a2 n c2) (.slice b2 k2 d2) p r l) rfl Tryz.info_slot (tc_one _ _ _ _ _ _ _ _ _) _ _ BX.out (by simp) ?_)
  intro w3 h3
  have BXn : Hid (Box w3 w.heap.size 32 (uc a2 n c2 b2 k2 d2 p r l cc am m cm s)) := by rw [Hid, h3.out]; exact BX.out.setCells (tc (.slice a2 n c2) (.slice b2 k2 d2) p r l) 0 (by simp)
  have HM2 := HM.out.setNoB BX.out (uc_nob _ _ _ _ _ _ _ _ _ _ _ _ _ _) (tc (.slice a2 n c2) (.slice b2 k2 d2) p r l) 0
  have BR2 := BR.out.apart w.heap.size (by omega) (tc (.slice a2 n c2) (.slice b2 k2 d2) p r l) 0
  have LL2 := LL.out.setCells (Nat.le_refl _) (tc (.slice a2 n c2) (.slice b2 k2 d2) p r l) 0
  have HA3 := HA2.out.1.setOff HOff.out (tc (.slice a2 n c2) (.slice b2 k2 d2) p r l) 0
  rw [← h3.out] at HM2 BR2 LL2 HA3
  replace BX := BXn
  replace HM := hide HM2
  replace BR := hide BR2
  replace LL := hide LL2
  have HA := hide HA3
  have HOk := hide HA2.out.2
  clear BXn HM2 BR2 LL2 HA3 HA2 h3 HOff
  obtain ⟨LM, hLM⟩ : ∃ LM, LM = M.length := ⟨_, rfl⟩
  have hmm : m = LM := by obtain ⟨_, _, a, c, e, _⟩ := HA.out; simp at e; rw [hLM]; exact e.2.1
  subst hmm
  have x6 := BX.out.cell 6
  have O0 : Hid ((w3.alloc (.cells #[] 30)).ownsRow w3.heap.size 30 3 (.slice (some ⟨w3.heap.size, 0, none⟩) 0 0) 0 []) := World.ownsRow_lit w3 #[] 0 (Nat.le_refl _) (by simp [maxLen]) rfl
  have R0 : Hid (Rw 3 (w3.alloc (.cells #[] 30)) (.slice am m cm) m (sv M)) := by
    have := HA.out.later ((Later.refl w3).alloc (.cells #[] 30))
    rw [← hLM] at this
    exact this
  have HLM := hide hLM
  clear hLM
  have BX0 := hide (BX.out.alloc (.cells #[] 30))
  have y6 := BX0.out.cell 6
  go_wp2_with (at_builtin; refine wpList_append_rw Tryz.elem_sense Tryz.underlying28 rfl (by decide) rfl (.tmp 7) (.tmp 9) rfl w3.heap.size _ 0 [] rfl O0.out _ m (sv M) rfl R0.out (sv_one M) ?c1 ?c2 ?c3 w3 ((Later.refl w3).alloc (.cells #[] 30)) ?_)
  case c1 => omega
  case c2 => unfold maxLen; omega
  case c3 => simp
  intro vo w4 ho hb hg
  have hl : Later w3 w4 := hb
  have hs3 : Hid (w.heap.size + 1 < w3.heap.size) := BR.out.lt
  have OW : Hid (w4.ownsRow w3.heap.size 30 3 vo m (sv M)) := by simpa [Hid] using ho
  have RW := hide (Rw.of_owns OW.out)
  have off0 := hide (owns_off OW.out (g := w.heap.size) (by have := hs3.out; omega))
  have off1 := hide (owns_off OW.out (g := w.heap.size + 1) hs3.out)
  replace LL := hide (LL.out.trans hl)
  replace HM := hide (HM.out.later hl)
  replace BX := hide (BX.out.later hl)
  replace BR := hide (BR.out.later hl)
  clear ho hb hg hl O0 R0 BX0 x6 y6 HA hs3 OW
  obtain ⟨ao, co, rfl⟩ := RW.out.shape
  go_wp2_with (refine wpList_storeV rfl 28 (.tmp 11) (.tmp 10) rfl w.heap.size 6 rfl ao m co rfl Tryz.info1_senses _ _ BX.out (by simp) ?_)
  intro w5 h5
  have BXn : Hid (Box w5 w.heap.size 32 (uc a2 n c2 b2 k2 d2 p r l cc ao m co s)) := by rw [Hid, h5.out]; exact BX.out.setCells [.slice ao m co] 6 (by simp)
  have HM2 := HM.out.setNoB BX.out (uc_nob _ _ _ _ _ _ _ _ _ _ _ _ _ _) [.slice ao m co] 6
  have BR2 := BR.out.apart w.heap.size (by omega) [.slice ao m co] 6
  have LL2 := LL.out.setCells (Nat.le_refl _) [.slice ao m co] 6
  have RW2 := RW.out.setOff off0.out [.slice ao m co] 6
  rw [← h5.out] at HM2 BR2 LL2 RW2
  replace BX := BXn
  replace HM := hide HM2
  replace BR := hide BR2
  replace LL := hide LL2
  replace RW := hide RW2
  clear BXn HM2 BR2 LL2 RW2 h5 off0
  have x_0 := BX.out.cell 0
  have x_1 := BX.out.cell 1
  have x_2 := BX.out.cell 2
  have x_3 := BX.out.cell 3
  have x_4 := BX.out.cell 4
  have x_5 := BX.out.cell 5
  have x_6 := BX.out.cell 6
  have x_7 := BX.out.cell 7
  have x_8 := BX.out.cell 8
  have x_9 := BX.out.cell 9
  go_wp2_with (refine wpList_storeU rfl 32 (.tmp 2) (.tmp 12) rfl (w.heap.size + 1) 0 rfl (uc a2 n c2 b2 k2 d2 p r l cc ao m co s) rfl Tryz.info_unit (uc_one _ _ _ _ _ _ _ _ _ _ _ _ _ _) _ _ BR.out (by simp) ?_)
  intro w6 h6
  clear x_0 x_1 x_2 x_3 x_4 x_5 x_6 x_7 x_8 x_9
  have BZ : Hid (Box w6 (w.heap.size + 1) 32 (uc a2 n c2 b2 k2 d2 p r l cc ao m co s)) := by rw [Hid, h6.out]; exact BR.out.all _ rfl
  have HM2 := HM.out.setNoB BR.out (uc_nob _ _ _ _ _ _ _ _ _ _ _ _ _ _) (uc a2 n c2 b2 k2 d2 p r l cc ao m co s) 0
  have LL2 := LL.out.setCells (by omega : w.heap.size ≤ w.heap.size + 1) (uc a2 n c2 b2 k2 d2 p r l cc ao m co s) 0
  have RW2 := RW.out.setOff off1.out (uc a2 n c2 b2 k2 d2 p r l cc ao m co s) 0
  rw [← h6.out] at HM2 LL2 RW2
  have HMZ := hide HM2
  have LZ := hide LL2
  have RZ := hide RW2
  clear HM2 LL2 RW2 h6 off1 HM LL RW BX BR
  go_wp2
  refine bodyPost_ret (results_cell1 rfl _ _ _ (w.heap.size + 1) 0 rfl _ (load_unit BZ.out rfl)) rfl ⟨_, ao, co, rfl, LZ.out, ⟨_, _, _, _, _, rfl, HMZ.out⟩, by have := RZ.out; rw [HLM.out] at this ⊢; exact this, HOk.out⟩
end Go.Proofs.YtfakboehmcimpaaGreat

namespace Go.Proofs.YtfakboehmcimpaaGreat
open Go.ChangeShapes Go.WideShapes Go.ChangeAt Go.RowKit
set_option linter.unusedVariables false
set_option maxRecDepth 4000
set_option linter.unusedSimpArgs false
/-! 'append(a, make([]byte, k)...)', a our own. -/
def zs (k : Nat) : List UInt8 := List.replicate k 0
theorem zs_len (k : Nat) : (zs k).length = k := by simp [zs]
theorem zerosK (k : Nat) : (Builtin.zeroCells (Value.int .u8 0).cells k).toList = bv (zs k) := zerosN k
theorem zerosK' (k : Nat) : Builtin.zeroCells (Value.int .u8 0).cells k = (bv (zs k)).toArray := by rw [← zerosK]
set_option maxHeartbeats 1000000 in
theorem run_append_zk (k : Nat) (hk0 : 0 < k) (hk : k ≤ 1000) {w : World} {B g n cap : Nat} {l : List UInt8} (ty : TypeId) (hown : w.ownsRow B 5 1 (.slice (some ⟨g, 0, none⟩) n cap) n (bv l)) (hn : n ≤ 1000000) (hbase : B ≤ w.heap.size) :
    ∃ v' w', (Builtin.append_ #[40, 3] ty #[.slice (some ⟨g, 0, none⟩) n cap, .int .i64 (k : Int)]).run Tryz.prog w = .ok v' w' ∧ w'.ownsRow B 5 1 v' (n + k) (bv (l ++ (zs k))) ∧ w.grownBy w' (some g) := by
  obtain ⟨i0, hi, hz0, hz1, hz2⟩ := info_parts Tryz.info_u8
  have h52 : IntKind.i64.wrap (k : Int) = k := by rw [IntKind.wrap_i64]; omega
  have hkn : ¬ ((k : Int) < 0) := by omega
  have hkz : ¬ (k = 0) := by omega
  have hkb : ¬ (281474976710656 < (k : Int)) := by omega
  have hai : ∀ w : World, (asInt (.int .i64 (k : Int))).run Tryz.prog w = .ok (k : Int) w := fun w => rfl
  obtain ⟨hlen, h | ⟨g', cap', cur, e, hbg, hg, hnc, hcm, hcs, htake⟩⟩ := hown
  · obtain ⟨h, _⟩ := h; cases h
  simp at e
  obtain ⟨rfl, rfl⟩ := e
  rw [Nat.mul_one] at hlen hcs htake
  have hL : (bv (l ++ (zs k))).length = n + k := by rw [bv_append, List.length_append, hlen, bv_length, zs_len]
  by_cases hroom : n + k ≤ cap
  · have hB : Box w g 5 cur.toList := by unfold Box; rw [hg]
    have hst := run_storeCells_cells (P := Tryz.prog) g n (bv ((zs k))) 0 w (fun j hj => by rw [hB.cell]; rw [bv_length, zs_len] at hj; simp; omega) (fun j hj => hB.frozen _) (bv_one _)
    simp only [Nat.add_zero] at hst
    have hB2 := hB.setCells (bv ((zs k))) n (by rw [bv_length, zs_len]; simp; omega)
    refine ⟨.slice (some ⟨g, 0, none⟩) (n + k) cap, w.setCells g n (bv ((zs k))), ?_, ?_, ?_⟩
    · simp [Builtin.append_, run_underlying Tryz.underlying40, run_underlying Tryz.underlying3, sizeOf, typeInfo, hi, hz0, hz1, hz2, zeroValue, hroom, Addr.add_lit, zerosK, hst, hai, h52, hkn, hkz, hkb]
    · refine ⟨by rw [hL, Nat.mul_one], .inr ⟨g, cap, _, rfl, hbg, hB2, hroom, hcm, ?_, ?_⟩⟩
      · simp [bv_length, zs_len]; omega
      · rw [Nat.mul_one, htake, ← bv_append, ← hL]
        exact List.take_left
    · have hlt := hB.lt
      exact ⟨(below_setCells (Below.refl g w) (Nat.le_refl _) _ _).os, (below_setCells (Below.refl g w) (Nat.le_refl _) _ _).tape, (below_setCells (Below.refl g w) (Nat.le_refl _) _ _).output, (below_setCells (Below.refl g w) (Nat.le_refl _) _ _).size, fun k' hk' hne => heap_setCells_other w g k' (fun e => hne (by rw [e])) _ _⟩
  · have hn63 : ¬ (9223372036854775807 < (n : Int) + k) := by omega
    have hfit : ¬ (281474976710656 < Builtin.nextslicecap (n + k) cap) := by
      have := growslice_fits (need := n + k) (old := cap) (bytes := 1) (by omega) (by omega)
      omega
    have holds : (Builtin.firstCells 1 n (.slice (some ⟨g, 0, none⟩) n cap)).run Tryz.prog w.drew = .ok (bv l).toArray w.drew := by
      refine run_firstCells_some w.drew 1 n ⟨g, 0, none⟩ n cap (bv l) (by rw [hlen]; omega) ?_
      intro j u hu
      have hj : j < n := by rw [← hlen]; exact (List.getElem?_eq_some_iff.1 hu).1
      have hB : Box w.drew g 5 cur.toList := by unfold Box; exact hg
      rw [show (⟨g, 0, none⟩ : Addr).add j = ⟨g, j, none⟩ from by unfold Addr.add; split <;> simp_all, hB.cell j, ← hu, ← htake, List.getElem?_take_of_lt hj]
    have hge := grownCap_ge w (n + k) cap 5
    have hcm2 : grownCap w (n + k) cap 5 ≤ maxLen := grownCap_le_maxLen w (n + k) cap 5 (by unfold maxLen; omega)
    refine ⟨.slice (some ⟨w.heap.size, 0, none⟩) (n + k) (grownCap w (n + k) cap 5), w.drew.alloc (.cells ((bv l).toArray ++ ((bv (zs k)).toArray ++ Builtin.zeroCells (Value.int .u8 0).cells (grownCap w (n + k) cap 5 - (n + k)))) 5), ?_, ?_, ?_⟩
    · simp [Builtin.append_, run_underlying Tryz.underlying40, run_underlying Tryz.underlying3, sizeOf, typeInfo, hi, hz0, hz1, hz2, zeroValue, hroom, Addr.add_lit, zerosK', hai, h52, hkn, hkz, hkb, hn63, hfit, Question.forced, holds, newRow, grownCap]
    · refine ⟨by rw [hL, Nat.mul_one], .inr ⟨w.heap.size, _, _, rfl, hbase, heap_alloc_new w.drew _, hge, hcm2, ?_, ?_⟩⟩
      · simp only [Array.size_append, List.size_toArray, size_zeroCells, hlen, bv_length, zs_len]
        simp [Value.cells]
        omega
      · simp only [Array.toList_append, List.toList_toArray]
        rw [Nat.mul_one, ← List.append_assoc, ← bv_append, ← hL]
        exact List.take_left
    · exact ⟨rfl, rfl, rfl, by simp, fun k' hk' _ => heap_alloc_old w.drew _ hk'⟩
theorem wpList_append_zk (k : Nat) (hk0 : 0 < k) (hk9 : k ≤ 1000) {w : World} {ops : Array Oper} {rest : List Oper} {o : Oper} {a : Act} {Q : Exit → Act → World → Prop} (hgd : o.guard = none) (s : Operand) (ho : o.op = .call { callee := .builtin .append, args := #[s, .const (.int .i64 (k : Int))], argTypes := #[40, 3] }) (B g n cap : Nat) (l : List UInt8) (hs : a.eval s = .slice (some ⟨g, 0, none⟩) n cap) (hown : w.ownsRow B 5 1 (.slice (some ⟨g, 0, none⟩) n cap) n (bv l)) (hn : n ≤ 1000000) (hbase : B ≤ w.heap.size) (w0 : World) (hb : Below B w0 w)
    (h : ∀ v' w', w'.ownsRow B 5 1 v' (n + k) (bv (l ++ (zs k))) → Below B w0 w' → wpList Tryz.prog ops Q rest (a.put o.dst v') w') : wpList Tryz.prog ops Q (o :: rest) a w := by
  refine wpList_plain hgd fun K hK => ?_
  obtain ⟨v', w', hrun, h1, h2⟩ := run_append_zk k hk0 hk9 o.type hown hn hbase
  have hbg : B ≤ g := (hown.lt g rfl).1
  unfold Go.Oper.wp execOp
  have hc : a.eval (.const (.int .i64 (k : Int))) = .int .i64 (k : Int) := rfl
  simp only [ho, resolve, invoke, builtin, Sem.run_bind, Sem.run_pure, Result.andThen_ok, List.map_toArray, List.map_cons, List.map_nil, hs, hc, hrun]
  exact hK _ _ (h v' w' h1 (hb.grown h2 hbase fun k' hk => by cases hk; exact hbg))
end Go.Proofs.YtfakboehmcimpaaGreat

namespace Go.Proofs.YtfakboehmcimpaaGreat
open Go.ChangeShapes Go.WideShapes Go.ChangeAt Go.RowKit
set_option linter.unusedVariables false
set_option maxRecDepth 4000
set_option linter.unusedSimpArgs false
/-! 'append(a, s...)', a our own, s a text. -/
theorem byteCells_str (m : List UInt8) : byteCells (strOf m) = bv m := by simp [byteCells, strOf, bv]
theorem strOf_size (m : List UInt8) : (strOf m).size = m.length := by simp [strOf, ByteArray.size]
set_option maxHeartbeats 1000000 in
theorem run_append_text {w : World} {B g n cap : Nat} {l : List UInt8} (ty : TypeId) (m : List UInt8) (hown : w.ownsRow B 5 1 (.slice (some ⟨g, 0, none⟩) n cap) n (bv l)) (hn : n + m.length ≤ 1000000) (hbase : B ≤ w.heap.size) :
    ∃ v' w', (Builtin.append_ #[40, 9] ty #[.slice (some ⟨g, 0, none⟩) n cap, .string (strOf m)]).run Tryz.prog w = .ok v' w' ∧ w'.ownsRow B 5 1 v' (n + m.length) (bv (l ++ m)) ∧ w.grownBy w' (some g) := by
  obtain ⟨i0, hi, hz0, hz1, hz2⟩ := info_parts Tryz.info_u8
  have hsrc : Src Tryz.prog i0.size 9 (.string (strOf m)) m.length (bv m) w := by
    have := Src.ofString (P := Tryz.prog) w (tx := 9) Tryz.underlying9 (strOf m)
    rw [strOf_size, byteCells_str] at this
    rw [hz1]
    exact this
  obtain ⟨hlen, h | ⟨g', cap', cur, e, hbg, hg, hnc, hcm, hcs, htake⟩⟩ := hown
  · obtain ⟨h, _⟩ := h; cases h
  simp at e
  obtain ⟨rfl, rfl⟩ := e
  rw [Nat.mul_one] at hlen hcs htake
  have hL : (bv (l ++ m)).length = n + m.length := by rw [bv_append, List.length_append, hlen, bv_length]
  have hB : Box w g 5 cur.toList := by unfold Box; rw [hg]
  by_cases hroom : n + m.length ≤ cap
  · have hrun := run_append_room_src (P := Tryz.prog) w 40 9 ty 5 i0 Tryz.underlying40 hi g 0 n cap (.string (strOf m)) m.length (bv m) hsrc hroom (fun j hj => by rw [hz1, hB.cell]; rw [bv_length] at hj; simp; omega) (fun j hj => hB.frozen _)
    rw [hz1, Nat.mul_one, Nat.zero_add] at hrun
    have hB2 := hB.setCells (bv m) n (by rw [bv_length]; simp; omega)
    refine ⟨.slice (some ⟨g, 0, none⟩) (n + m.length) cap, w.setCells g n (bv m), hrun, ?_, ?_⟩
    · refine ⟨by rw [hL, Nat.mul_one], .inr ⟨g, cap, _, rfl, hbg, hB2, hroom, hcm, ?_, ?_⟩⟩
      · simp [bv_length]; omega
      · rw [Nat.mul_one, htake, ← bv_append, ← hL]
        exact List.take_left
    · have hlt := hB.lt
      exact ⟨(below_setCells (Below.refl g w) (Nat.le_refl _) _ _).os, (below_setCells (Below.refl g w) (Nat.le_refl _) _ _).tape, (below_setCells (Below.refl g w) (Nat.le_refl _) _ _).output, (below_setCells (Below.refl g w) (Nat.le_refl _) _ _).size, fun k hk hne => heap_setCells_other w g k (fun e => hne (by rw [e])) _ _⟩
  · have hfit : Builtin.nextslicecap (n + m.length) cap * i0.bytes ≤ 281474976710656 := by
      rw [hz2]
      have := growslice_fits (need := n + m.length) (old := cap) (bytes := 1) (by omega) (by omega)
      omega
    have holds : (Builtin.firstCells i0.size n (.slice (some ⟨g, 0, none⟩) n cap)).run Tryz.prog w.drew = .ok (bv l).toArray w.drew := by
      rw [hz1]
      refine run_firstCells_some w.drew 1 n ⟨g, 0, none⟩ n cap (bv l) (by rw [hlen]; omega) ?_
      intro j u hu
      have hj : j < n := by rw [← hlen]; exact (List.getElem?_eq_some_iff.1 hu).1
      have hB : Box w.drew g 5 cur.toList := by unfold Box; exact hg
      rw [show (⟨g, 0, none⟩ : Addr).add j = ⟨g, j, none⟩ from by unfold Addr.add; split <;> simp_all, hB.cell j, ← hu, ← htake, List.getElem?_take_of_lt hj]
    have hrun := run_append_grow_src (P := Tryz.prog) w 40 9 ty 5 i0 (.int .u8 0) Tryz.underlying40 hi hz0 (some ⟨g, 0, none⟩) n cap (bv l) holds (.string (strOf m)) m.length (bv m) hsrc (by omega) (by omega) hfit
    have hge := grownCap_ge w (n + m.length) cap 5
    have hcm2 : grownCap w (n + m.length) cap 5 ≤ maxLen := grownCap_le_maxLen w (n + m.length) cap 5 (by unfold maxLen; omega)
    refine ⟨_, _, hrun, ?_, ?_⟩
    · refine ⟨by rw [hL, Nat.mul_one], .inr ⟨w.heap.size, _, _, rfl, hbase, heap_alloc_new w.drew _, hge, hcm2, ?_, ?_⟩⟩
      · simp only [Array.size_append, List.size_toArray, size_zeroCells, List.length_append, hlen, bv_length]
        simp [Value.cells]
        omega
      · simp only [Array.toList_append, List.toList_toArray]
        rw [Nat.mul_one, ← bv_append, ← hL]
        exact List.take_left
    · exact ⟨rfl, rfl, rfl, by simp, fun k hk _ => heap_alloc_old w.drew _ hk⟩
theorem owns_slice {w : World} {B n : Nat} {v : Value} {l : List UInt8} (hown : w.ownsRow B 5 1 v n (bv l)) (hp : 0 < n) : ∃ g cap, v = .slice (some ⟨g, 0, none⟩) n cap := by
  obtain ⟨_, h | ⟨g, cap, cur, e, _⟩⟩ := hown
  · obtain ⟨_, h⟩ := h; omega
  · exact ⟨g, cap, e⟩
theorem wpList_append_text {w : World} {ops : Array Oper} {rest : List Oper} {o : Oper} {a : Act} {Q : Exit → Act → World → Prop} (hgd : o.guard = none) (s x : Operand) (ho : o.op = .call { callee := .builtin .append, args := #[s, x], argTypes := #[40, 9] }) (B n : Nat) (v : Value) (l m : List UInt8) (hs : a.eval s = v) (hx : a.eval x = .string (strOf m)) (hown : w.ownsRow B 5 1 v n (bv l)) (hp : 0 < n) (hn : n + m.length ≤ 1000000) (hbase : B ≤ w.heap.size) (w0 : World) (hb : Below B w0 w)
    (h : ∀ v' w', w'.ownsRow B 5 1 v' (n + m.length) (bv (l ++ m)) → Below B w0 w' → wpList Tryz.prog ops Q rest (a.put o.dst v') w') : wpList Tryz.prog ops Q (o :: rest) a w := by
  obtain ⟨g, cap, rfl⟩ := owns_slice hown hp
  refine wpList_plain hgd fun K hK => ?_
  obtain ⟨v', w', hrun, h1, h2⟩ := run_append_text o.type m hown hn hbase
  have hbg : B ≤ g := (hown.lt g rfl).1
  unfold Go.Oper.wp execOp
  simp only [ho, resolve, invoke, builtin, Sem.run_bind, Sem.run_pure, Result.andThen_ok, List.map_toArray, List.map_cons, List.map_nil, hs, hx, hrun]
  exact hK _ _ (h v' w' h1 (hb.grown h2 hbase fun k hk => by cases hk; exact hbg))
/-! The landed inquiry: first, Serial, Standard. -/
theorem first7_c (there : Bool) (w : World) : Calls Tryz.prog 98 #[.bool there] w fun e w' => e = .returned (.int .u8 ((firstB there).toNat : Int)) ∧ w' = w := by
  cases there with
  | true =>
    go_enter Tryz.func98, Tryz.ntmps98
    go_wp2
    go_ret
    exact ⟨rfl, rfl⟩
  | false =>
    go_enter Tryz.func98, Tryz.ntmps98
    go_wp2
    go_ret
    exact ⟨rfl, rfl⟩
end Go.Proofs.YtfakboehmcimpaaGreat

namespace Go.Proofs.YtfakboehmcimpaaGreat
open Go.ChangeShapes Go.WideShapes Go.ChangeAt Go.RowKit
set_option linter.unusedVariables false
set_option maxRecDepth 4000
set_option linter.unusedSimpArgs false
theorem i64_and7 (n : Int) : bits .and .i64 n 7 = n % 8 := by
  have h7 : (BitVec.ofInt 64 7).toNat = 2 ^ 3 - 1 := by decide
  have key : (BitVec.ofInt 64 n &&& BitVec.ofInt 64 7).toNat = (n % ((2 ^ 64 : Nat) : Int)).toNat % 2 ^ 3 := by
    rw [BitVec.toNat_and, BitVec.toNat_ofInt, h7, Nat.and_two_pow_sub_one_eq_mod]
  show IntKind.i64.wrap ((BitVec.ofInt 64 n &&& BitVec.ofInt 64 7).toNat : Nat) = n % 8
  rw [key, IntKind.wrap_i64]
  omega
theorem serial7_c : ISerial7 := by
  intro lun w h
  rcases (show lun % 8 = 0 ∨ lun % 8 = 1 ∨ lun % 8 = 2 ∨ lun % 8 = 3 ∨ lun % 8 = 4 ∨ lun % 8 = 5 ∨ lun % 8 = 6 ∨ lun % 8 = 7 by omega) with h8 | h8 | h8 | h8 | h8 | h8 | h8 | h8
  · have hb : bits BinOp.and IntKind.i64 lun 7 = 0 := by rw [i64_and7]; omega
    have he : Utf8.encode 48 = ⟨#[48]⟩ := by decide
    have HS : Hid (strOf (serL lun) = ⟨#[82, 84, 48, 48, 48, 48, 48, 48]⟩) := by rw [Hid, serL, show (lun % 8).toNat = 0 by omega]; rfl
    clear h h8
    go_enter Tryz.func124, Tryz.ntmps124
    go_wp2
    go_ret
    exact ⟨by rw [HS.out]; rfl, Later.refl _⟩
  · have hb : bits BinOp.and IntKind.i64 lun 7 = 1 := by rw [i64_and7]; omega
    have he : Utf8.encode 49 = ⟨#[49]⟩ := by decide
    have HS : Hid (strOf (serL lun) = ⟨#[82, 84, 48, 48, 48, 48, 48, 49]⟩) := by rw [Hid, serL, show (lun % 8).toNat = 1 by omega]; rfl
    clear h h8
    go_enter Tryz.func124, Tryz.ntmps124
    go_wp2
    go_ret
    exact ⟨by rw [HS.out]; rfl, Later.refl _⟩
  · have hb : bits BinOp.and IntKind.i64 lun 7 = 2 := by rw [i64_and7]; omega
    have he : Utf8.encode 50 = ⟨#[50]⟩ := by decide
    have HS : Hid (strOf (serL lun) = ⟨#[82, 84, 48, 48, 48, 48, 48, 50]⟩) := by rw [Hid, serL, show (lun % 8).toNat = 2 by omega]; rfl
    clear h h8
    go_enter Tryz.func124, Tryz.ntmps124
    go_wp2
    go_ret
    exact ⟨by rw [HS.out]; rfl, Later.refl _⟩
  · have hb : bits BinOp.and IntKind.i64 lun 7 = 3 := by rw [i64_and7]; omega
    have he : Utf8.encode 51 = ⟨#[51]⟩ := by decide
    have HS : Hid (strOf (serL lun) = ⟨#[82, 84, 48, 48, 48, 48, 48, 51]⟩) := by rw [Hid, serL, show (lun % 8).toNat = 3 by omega]; rfl
    clear h h8
    go_enter Tryz.func124, Tryz.ntmps124
    go_wp2
    go_ret
    exact ⟨by rw [HS.out]; rfl, Later.refl _⟩
  · have hb : bits BinOp.and IntKind.i64 lun 7 = 4 := by rw [i64_and7]; omega
    have he : Utf8.encode 52 = ⟨#[52]⟩ := by decide
    have HS : Hid (strOf (serL lun) = ⟨#[82, 84, 48, 48, 48, 48, 48, 52]⟩) := by rw [Hid, serL, show (lun % 8).toNat = 4 by omega]; rfl
    clear h h8
    go_enter Tryz.func124, Tryz.ntmps124
    go_wp2
    go_ret
    exact ⟨by rw [HS.out]; rfl, Later.refl _⟩
  · have hb : bits BinOp.and IntKind.i64 lun 7 = 5 := by rw [i64_and7]; omega
    have he : Utf8.encode 53 = ⟨#[53]⟩ := by decide
    have HS : Hid (strOf (serL lun) = ⟨#[82, 84, 48, 48, 48, 48, 48, 53]⟩) := by rw [Hid, serL, show (lun % 8).toNat = 5 by omega]; rfl
    clear h h8
    go_enter Tryz.func124, Tryz.ntmps124
    go_wp2
    go_ret
    exact ⟨by rw [HS.out]; rfl, Later.refl _⟩
  · have hb : bits BinOp.and IntKind.i64 lun 7 = 6 := by rw [i64_and7]; omega
    have he : Utf8.encode 54 = ⟨#[54]⟩ := by decide
    have HS : Hid (strOf (serL lun) = ⟨#[82, 84, 48, 48, 48, 48, 48, 54]⟩) := by rw [Hid, serL, show (lun % 8).toNat = 6 by omega]; rfl
    clear h h8
    go_enter Tryz.func124, Tryz.ntmps124
    go_wp2
    go_ret
    exact ⟨by rw [HS.out]; rfl, Later.refl _⟩
  · have hb : bits BinOp.and IntKind.i64 lun 7 = 7 := by rw [i64_and7]; omega
    have he : Utf8.encode 55 = ⟨#[55]⟩ := by decide
    have HS : Hid (strOf (serL lun) = ⟨#[82, 84, 48, 48, 48, 48, 48, 55]⟩) := by rw [Hid, serL, show (lun % 8).toNat = 7 by omega]; rfl
    clear h h8
    go_enter Tryz.func124, Tryz.ntmps124
    go_wp2
    go_ret
    exact ⟨by rw [HS.out]; rfl, Later.refl _⟩
set_option maxHeartbeats 1000000 in
theorem std7_c : IStd7 := by
  intro there w
  have HS : Hid (stdL there = (([firstB there, 128, 6, 2, 31, 0, 0, 2] ++ [82, 69, 84, 73, 67, 85, 76, 69]) ++ textI [71, 65, 68, 71, 69, 84, 32, 68, 73, 83, 75] 16) ++ [48, 48, 48, 49]) := rfl
  go_enter Tryz.func62, Tryz.ntmps62
  go_wp2_with fail
  refine (first7_c there _).mono ?_
  rintro e w' ⟨rfl, hw⟩
  have hw2 := hw.symm
  subst hw2
  clear hw
  generalize firstB there = f at *
  go_wp2_with (at_builtin; refine wpList_append_text rfl (.tmp 7) (.const (.string ⟨#[82, 69, 84, 73, 67, 85, 76, 69]⟩)) rfl w.heap.size 8 _ [f, 128, 6, 2, 31, 0, 0, 2] [82, 69, 84, 73, 67, 85, 76, 69] rfl rfl (owns_box (Box.new w 5 #[.int .u8 (f.toNat : Int), .int .u8 128, .int .u8 6, .int .u8 2, .int .u8 31, .int .u8 0, .int .u8 0, .int .u8 2]) rfl (by decide) (Nat.le_refl _)) (by decide) (by decide) (by simp) w ((Later.refl w).alloc _) ?_)
  intro v2 w2 ho hb
  have O2 := hide ho
  have L2 : Hid (Later w w2) := hb
  clear ho hb
  go_wp2_with fail
  refine (text_c ⟨#[71, 65, 68, 71, 69, 84, 32, 68, 73, 83, 75]⟩ 16 _ _ (Nat.le_refl _) (by decide)).mono ?_
  rintro e w3 ⟨v3, rfl, hl, ho⟩
  replace O2 := hide (owns_later O2.out hl)
  replace L2 := hide (L2.out.trans hl)
  have V3 := hide (Bs.of_owns ho).1
  clear ho hl
  go_wp2_with (at_builtin; refine wpList_append_bs rfl (.tmp 9) (.tmp 10) rfl w.heap.size v2 16 _ rfl O2.out v3 _ rfl V3.out (by decide) L2.out.size w L2.out ?_)
  intro v4 w4 ho hb hg
  have O4 := hide ho
  have L4 : Hid (Later w w4) := hb
  clear ho hb hg
  go_wp2_with (at_builtin; refine wpList_append_text rfl (.tmp 12) (.const (.string ⟨#[48, 48, 48, 49]⟩)) rfl w.heap.size 32 v4 _ [48, 48, 48, 49] rfl rfl O4.out (by decide) (by decide) L4.out.size w L4.out ?_)
  intro v5 w5 ho hb
  have V5 := hide (Bs.of_owns ho).1
  have L5 : Hid (Later w w5) := hb
  clear ho hb
  go_wp2
  go_ret
  exact ⟨_, rfl, L5.out, by rw [HS.out]; exact V5.out⟩
end Go.Proofs.YtfakboehmcimpaaGreat

namespace Go.Proofs.YtfakboehmcimpaaGreat
open Go.ChangeShapes Go.WideShapes Go.ChangeAt Go.RowKit
set_option linter.unusedVariables false
set_option maxRecDepth 4000
set_option linter.unusedSimpArgs false
/-! The landed inquiry: Cut. -/
set_option maxHeartbeats 1000000 in
theorem cut7_c : ICut7 := by
  intro v l n w h hs hn64
  have HB := hide h
  obtain ⟨hlm, ad, cap, rfl, hcap, _⟩ := h
  clear hlm
  obtain ⟨k, hk⟩ : ∃ k, k = l.length := ⟨_, rfl⟩
  rw [← hk] at HB hcap hs ⊢
  have HK := hide hk
  clear hk
  by_cases h0 : n < 0
  · have HC : Hid (cutL l n = []) := by rw [Hid, cutL, if_pos h0]
    clear hn64
    go_enter Tryz.func58, Tryz.ntmps58
    go_wp2
    go_ret
    exact ⟨_, rfl, Later.refl _, by rw [HC.out]; exact Bs.nil _⟩
  have hb0 : decide (n < 0) = false := by simp; omega
  obtain ⟨m, hm⟩ : ∃ m : Nat, m = min n.toNat k := ⟨_, rfl⟩
  have hmin : (if (k : Int) < n then (k : Int) else n) = (m : Int) := by split <;> omega
  have hmk : m ≤ k := by omega
  have HC : Hid (cutL l n = l.take m) := by
    rw [Hid, cutL, if_neg h0]
    by_cases hh : n.toNat ≤ k
    · rw [show m = n.toNat by omega]
    · rw [List.take_of_length_le (by have := HK.out; omega), List.take_of_length_le (by have := HK.out; omega)]
  have s1 : (m : Int) ≤ (cap : Int) := by omega
  have HM := hide hm
  clear hm h0 hn64
  go_enter Tryz.func58, Tryz.ntmps58
  have Ex : Hid ((w.alloc (.cells #[] 5)).ownsRow w.heap.size 5 1 (.slice (some ⟨w.heap.size, 0, none⟩) 0 0) 0 (bv [])) := World.ownsRow_lit w #[] 0 (Nat.le_refl _) (by simp [maxLen]) rfl
  have LEx : Hid (Below w.heap.size w (w.alloc (.cells #[] 5))) := (Below.refl _ _).alloc (Nat.le_refl _) _
  have Ax : Hid (Bs (w.alloc (.cells #[] 5)) (.slice ad m cap) (l.take m)) := (HB.out.cut7 m hmk).later LEx.out
  go_wp2_with (at_builtin; refine wpList_append_bs rfl (.tmp 7) (.tmp 13) rfl w.heap.size _ 0 [] rfl Ex.out _ (l.take m) rfl Ax.out (by simp; omega) (by simp) w LEx.out ?_)
  intro v3 w3 ho hb hg
  have V3 := hide (Bs.of_owns ho).1
  have L3 : Hid (Later w w3) := hb
  clear ho hb hg Ex LEx Ax
  go_wp2
  go_ret
  exact ⟨_, rfl, L3.out, by rw [HC.out]; exact V3.out⟩
end Go.Proofs.YtfakboehmcimpaaGreat

namespace Go.Proofs.YtfakboehmcimpaaGreat
open Go.ChangeShapes Go.WideShapes Go.ChangeAt Go.RowKit
set_option linter.unusedVariables false
set_option maxRecDepth 4000
set_option linter.unusedSimpArgs false
/-! The document's capacity: Ten, Sixteen. -/
def lastN (b : Int) : Nat := ((b - 1) % 18446744073709551616).toNat
theorem lastN_eq (b : Int) : IntKind.u64.wrap (IntKind.u64.wrap b - 1) = (lastN b : Int) := by
  rw [IntKind.wrap_u64, IntKind.wrap_u64]; unfold lastN; omega
theorem lastN_le (b : Int) : lastN b ≤ 18446744073709551615 := by unfold lastN; omega
def sz64 : List UInt8 := [0, 0, 0, 64]
def tenL (b : Int) : List UInt8 := putBeI (lastN b) 4 ++ sz64
def sixL (b : Int) : List UInt8 := putBeI (lastN b) 8 ++ (sz64 ++ zs 20)
theorem putBeI4_len (x : Nat) : (putBeI x 4).length = 4 := by rw [putBeI, if_pos (by decide), putBe_length]; rfl
theorem putBeI8_len (x : Nat) : (putBeI x 8).length = 8 := by rw [putBeI, if_pos (by decide), putBe_length]; rfl
theorem sixL_len (b : Int) : (sixL b).length = 32 := by rw [sixL, List.length_append, List.length_append, putBeI8_len, zs_len]; rfl
theorem bs_sz64 (w : World) : Bs (w.alloc (.cells #[.int .u8 0, .int .u8 0, .int .u8 0, .int .u8 64] 5)) (.slice (some ⟨w.heap.size, 0, none⟩) 4 4) sz64 :=
  (Bs.of_owns (owns_box (Box.new w 5 #[.int .u8 0, .int .u8 0, .int .u8 0, .int .u8 64]) (l := sz64) rfl (by decide) (Nat.le_refl _))).1
set_option maxHeartbeats 1000000 in
theorem rten9_c (b : Int) (w : World) : Calls Tryz.prog 41 #[.int .i64 b] w fun e w' => ∃ v, e = .returned v ∧ Later w w' ∧ Bs w' v (tenL b) := by
  have hx := lastN_eq b
  have hx2 := lastN_le b
  have HT : Hid (tenL b = putBeI (lastN b) 4 ++ sz64) := rfl
  generalize lastN b = x at *
  have HX2 := hide hx2
  clear hx2
  go_enter Tryz.func41, Tryz.ntmps41
  go_wp2_with fail
  refine (rputBig_c x 4 _ _ (Nat.le_refl _) HX2.out).mono ?_
  rintro e w2 ⟨v2, rfl, hl, ho⟩
  have L2 : Hid (Later w w2) := hl
  rw [putBeI4_len] at ho
  have O2 := hide (owns_later ho ((Later.refl w2).alloc (.cells #[.int .u8 0, .int .u8 0, .int .u8 0, .int .u8 64] 5)))
  have L3 := hide (L2.out.alloc (.cells #[.int .u8 0, .int .u8 0, .int .u8 0, .int .u8 64] 5))
  have V3 := hide (bs_sz64 w2)
  clear ho hl
  go_wp2_with (at_builtin; refine wpList_append_bs rfl (.tmp 6) (.tmp 7) rfl w.heap.size v2 4 _ rfl O2.out _ sz64 rfl V3.out (by decide) L3.out.size w L3.out ?_)
  intro v4 w4 ho hb hg
  have V4 := hide (Bs.of_owns ho).1
  have L4 : Hid (Later w w4) := hb
  clear ho hb hg
  go_wp2
  go_ret
  exact ⟨_, rfl, L4.out, by rw [HT.out]; exact V4.out⟩
set_option maxHeartbeats 1000000 in
theorem rsix9_c (b n : Int) (w : World) : Calls Tryz.prog 42 #[.int .i64 b, .int .i64 n] w fun e w' => ∃ v, e = .returned v ∧ Later w w' ∧ Bs w' v (cutL (sixL b) n) := by
  have hx := lastN_eq b
  have hx2 := lastN_le b
  have HT : Hid (sixL b = putBeI (lastN b) 8 ++ (sz64 ++ zs 20)) := rfl
  generalize lastN b = x at *
  have HX2 := hide hx2
  clear hx2
  go_enter Tryz.func42, Tryz.ntmps42
  go_wp2_with fail
  refine (rputBig_c x 8 _ _ (Nat.le_refl _) HX2.out).mono ?_
  rintro e w2 ⟨v2, rfl, hl, ho⟩
  have L2 : Hid (Later w w2) := hl
  rw [putBeI8_len] at ho
  have O2 := hide (owns_later ho ((Later.refl w2).alloc (.cells #[.int .u8 0, .int .u8 0, .int .u8 0, .int .u8 64] 5)))
  have L3 := hide (L2.out.alloc (.cells #[.int .u8 0, .int .u8 0, .int .u8 0, .int .u8 64] 5))
  have V3 := hide (bs_sz64 w2)
  clear ho hl
  go_wp2_with (at_builtin; refine wpList_append_bs rfl (.tmp 9) (.tmp 10) rfl w.heap.size v2 8 _ rfl O2.out _ sz64 rfl V3.out (by decide) L3.out.size w L3.out ?_)
  intro v4 w4 ho hb hg
  obtain ⟨g4, c4, rfl⟩ := owns_slice ho (by decide)
  have O4 := hide ho
  have L4 : Hid (Later w w4) := hb
  clear ho hb hg
  go_wp2_with (at_builtin; refine wpList_append_zk 20 (by decide) (by decide) rfl (.tmp 12) rfl w.heap.size g4 12 c4 _ rfl O4.out (by decide) L4.out.size w L4.out ?_)
  intro v5 w5 ho hb
  have V5 := hide (Bs.of_owns ho).1
  rw [← HT.out] at V5
  have L5 : Hid (Later w w5) := hb
  clear ho hb
  go_wp2_with fail
  refine (rcut_c n _ V5.out (by rw [sixL_len]; decide)).mono ?_
  rintro e w6 ⟨v6, rfl, hl, hv⟩
  have V6 := hide hv
  have L6 := hide (L5.out.trans hl)
  clear hl hv
  go_wp2
  go_ret
  exact ⟨_, rfl, L6.out, V6.out⟩
end Go.Proofs.YtfakboehmcimpaaGreat
