import Derived.Deep.OwnRows
import Derived.Test.YtfakboehmcimpaaGreatMAK
import Derived.Test.YtfakboehmcimpaaGreatMAI
import Derived.Test.YtfakboehmcimpaaGreatMAC
import Derived.Test.YtfakboehmcimpaaGreatMAG
namespace Go.Proofs.YtfakboehmcimpaaGreat
open Go.ChangeShapes Go.WideShapes Go.ChangeAt Go.RowKit
set_option linter.unusedVariables false
set_option maxRecDepth 4000
set_option linter.unusedSimpArgs false
/-! Cut: the first bytes. -/
def cutL (l : List UInt8) (n : Int) : List UInt8 := if n < 0 then [] else l.take n.toNat
theorem Bs.cut7 {w : World} {a : Option Addr} {n cap : Nat} {l : List UInt8} (h : Bs w (.slice a n cap) l) (k : Nat) (hk : k ≤ n) : Bs w (.slice a k cap) (l.take k) := by
  obtain ⟨h1, ad, cap', e, h2, h3⟩ := h
  simp at e
  obtain ⟨rfl, rfl, rfl⟩ := e
  have hl : (l.take k).length = k := by simp; omega
  refine ⟨by rw [hl]; omega, a, cap, by rw [hl], by rw [hl]; omega, ?_⟩
  rcases h3 with h3 | ⟨b', off', e, h3⟩
  · exact .inl (by rw [h3]; simp)
  · refine .inr ⟨b', off', e, fun j hj => ?_⟩
    rw [hl] at hj
    rw [h3 j (by omega), List.getElem_take]
set_option maxHeartbeats 1000000 in
theorem rcut_c {v : Value} {l : List UInt8} (n : Int) (w : World) (h : Bs w v l) (hs : l.length ≤ 1000000) : Calls Tryz.prog 33 #[v, .int .i64 n] w fun e w' => ∃ v, e = .returned v ∧ Later w w' ∧ Bs w' v (cutL l n) := by
  have HB := hide h
  obtain ⟨hlm, ad, cap, rfl, hcap, _⟩ := h
  clear hlm
  obtain ⟨k, hk⟩ : ∃ k, k = l.length := ⟨_, rfl⟩
  rw [← hk] at HB hcap hs ⊢
  have HK := hide hk
  clear hk
  by_cases h0 : n < 0
  · have HC : Hid (cutL l n = []) := by rw [Hid, cutL, if_pos h0]
    go_enter Tryz.func33, Tryz.ntmps33
    go_wp2
    go_ret
    exact ⟨_, rfl, Later.refl _, by rw [HC.out]; exact Bs.nil _⟩
  have hb0 : decide (n < 0) = false := by simp; omega
  obtain ⟨m, rfl⟩ : ∃ m : Nat, n = m := ⟨n.toNat, by omega⟩
  by_cases h1 : k < m
  · have hb1 : decide ((k : Int) < (m : Int)) = true := by simp; omega
    have HC : Hid (cutL l (m : Int) = l.take k) := by
      rw [Hid, cutL, if_neg h0, Int.toNat_natCast, List.take_of_length_le (by have := HK.out; omega), List.take_of_length_le (by have := HK.out; omega)]
    clear h0
    have s1 : (k : Int) ≤ (cap : Int) := by omega
    go_enter Tryz.func33, Tryz.ntmps33
    have Ex : Hid ((w.alloc (.cells #[] 5)).ownsRow w.heap.size 5 1 (.slice (some ⟨w.heap.size, 0, none⟩) 0 0) 0 (bv [])) := World.ownsRow_lit w #[] 0 (Nat.le_refl _) (by simp [maxLen]) rfl
    have LEx : Hid (Below w.heap.size w (w.alloc (.cells #[] 5))) := (Below.refl _ _).alloc (Nat.le_refl _) _
    have Ax : Hid (Bs (w.alloc (.cells #[] 5)) (.slice ad k cap) (l.take k)) := (HB.out.cut7 k (Nat.le_refl _)).later LEx.out
    go_wp2_with (at_builtin; refine wpList_append_bs rfl (.tmp 13) (.tmp 16) rfl w.heap.size _ 0 [] rfl Ex.out _ (l.take k) rfl Ax.out (by simp; omega) (by simp) w LEx.out ?_)
    intro v3 w3 ho hb hg
    have V3 := hide (Bs.of_owns ho).1
    have L3 : Hid (Later w w3) := hb
    clear ho hb hg Ex LEx Ax
    go_wp2
    go_ret
    exact ⟨_, rfl, L3.out, by rw [HC.out]; exact V3.out⟩
  · have hb1 : decide ((k : Int) < (m : Int)) = false := by simp; omega
    have HC : Hid (cutL l (m : Int) = l.take m) := by
      rw [Hid, cutL, if_neg h0, Int.toNat_natCast]
    clear h0
    have s1 : (m : Int) ≤ (cap : Int) := by omega
    go_enter Tryz.func33, Tryz.ntmps33
    have Ex : Hid ((w.alloc (.cells #[] 5)).ownsRow w.heap.size 5 1 (.slice (some ⟨w.heap.size, 0, none⟩) 0 0) 0 (bv [])) := World.ownsRow_lit w #[] 0 (Nat.le_refl _) (by simp [maxLen]) rfl
    have LEx : Hid (Below w.heap.size w (w.alloc (.cells #[] 5))) := (Below.refl _ _).alloc (Nat.le_refl _) _
    have Ax : Hid (Bs (w.alloc (.cells #[] 5)) (.slice ad m cap) (l.take m)) := (HB.out.cut7 m (by omega)).later LEx.out
    go_wp2_with (at_builtin; refine wpList_append_bs rfl (.tmp 13) (.tmp 16) rfl w.heap.size _ 0 [] rfl Ex.out _ (l.take m) rfl Ax.out (by simp; omega) (by simp) w LEx.out ?_)
    intro v3 w3 ho hb hg
    have V3 := hide (Bs.of_owns ho).1
    have L3 : Hid (Later w w3) := hb
    clear ho hb hg Ex LEx Ax
    go_wp2
    go_ret
    exact ⟨_, rfl, L3.out, by rw [HC.out]; exact V3.out⟩
end Go.Proofs.YtfakboehmcimpaaGreat

namespace Go.Proofs.YtfakboehmcimpaaGreat
open Go.ChangeShapes Go.WideShapes Go.ChangeAt Go.RowKit
set_option linter.unusedVariables false
set_option maxRecDepth 4000
set_option linter.unusedSimpArgs false
/-! 'append(a, make([]byte, 52)...)', a our own. -/
theorem zerosN (n : Nat) : (Builtin.zeroCells (Value.int .u8 0).cells n).toList = bv (List.replicate n 0) := by
  rw [bv_replicate]
  simp only [Builtin.zeroCells, Value.cells]
  refine List.ext_getElem (by simp) fun i h1 h2 => ?_
  simp [Nat.mod_one]
def z52 : List UInt8 := List.replicate 52 0
theorem z52_len : z52.length = 52 := by simp [z52]
theorem zeros52 : (Builtin.zeroCells (Value.int .u8 0).cells 52).toList = bv z52 := zerosN 52
theorem zeros52' : Builtin.zeroCells (Value.int .u8 0).cells 52 = (bv z52).toArray := by rw [← zeros52]
set_option maxHeartbeats 1000000 in
theorem run_append_zeros {w : World} {B g n cap : Nat} {l : List UInt8} (ty : TypeId) (hown : w.ownsRow B 5 1 (.slice (some ⟨g, 0, none⟩) n cap) n (bv l)) (hn : n ≤ 1000000) (hbase : B ≤ w.heap.size) :
    ∃ v' w', (Builtin.append_ #[40, 3] ty #[.slice (some ⟨g, 0, none⟩) n cap, .int .i64 52]).run Tryz.prog w = .ok v' w' ∧ w'.ownsRow B 5 1 v' (n + 52) (bv (l ++ z52)) ∧ w.grownBy w' (some g) := by
  obtain ⟨i0, hi, hz0, hz1, hz2⟩ := info_parts Tryz.info_u8
  have h52 : IntKind.i64.wrap 52 = 52 := by decide
  have hai : ∀ w : World, (asInt (.int .i64 52)).run Tryz.prog w = .ok 52 w := fun w => rfl
  obtain ⟨hlen, h | ⟨g', cap', cur, e, hbg, hg, hnc, hcm, hcs, htake⟩⟩ := hown
  · obtain ⟨h, _⟩ := h; cases h
  simp at e
  obtain ⟨rfl, rfl⟩ := e
  rw [Nat.mul_one] at hlen hcs htake
  have hL : (bv (l ++ z52)).length = n + 52 := by rw [bv_append, List.length_append, hlen, bv_length, z52_len]
  by_cases hroom : n + 52 ≤ cap
  · have hB : Box w g 5 cur.toList := by unfold Box; rw [hg]
    have hst := run_storeCells_cells (P := Tryz.prog) g n (bv (z52)) 0 w (fun j hj => by rw [hB.cell]; rw [bv_length, z52_len] at hj; simp; omega) (fun j hj => hB.frozen _) (bv_one _)
    simp only [Nat.add_zero] at hst
    have hB2 := hB.setCells (bv (z52)) n (by rw [bv_length, z52_len]; simp; omega)
    refine ⟨.slice (some ⟨g, 0, none⟩) (n + 52) cap, w.setCells g n (bv (z52)), ?_, ?_, ?_⟩
    · simp [Builtin.append_, run_underlying Tryz.underlying40, run_underlying Tryz.underlying3, sizeOf, typeInfo, hi, hz0, hz1, hz2, zeroValue, hroom, Addr.add_lit, zeros52, hst, hai, h52]
    · refine ⟨by rw [hL, Nat.mul_one], .inr ⟨g, cap, _, rfl, hbg, hB2, hroom, hcm, ?_, ?_⟩⟩
      · simp [bv_length, z52_len]; omega
      · rw [Nat.mul_one, htake, ← bv_append, ← hL]
        exact List.take_left
    · have hlt := hB.lt
      exact ⟨(below_setCells (Below.refl g w) (Nat.le_refl _) _ _).os, (below_setCells (Below.refl g w) (Nat.le_refl _) _ _).tape, (below_setCells (Below.refl g w) (Nat.le_refl _) _ _).output, (below_setCells (Below.refl g w) (Nat.le_refl _) _ _).size, fun k hk hne => heap_setCells_other w g k (fun e => hne (by rw [e])) _ _⟩
  · have hn63 : ¬ (9223372036854775807 < (n : Int) + 52) := by omega
    have hfit : ¬ (281474976710656 < Builtin.nextslicecap (n + 52) cap) := by
      have := growslice_fits (need := n + 52) (old := cap) (bytes := 1) (by omega) (by omega)
      omega
    have holds : (Builtin.firstCells 1 n (.slice (some ⟨g, 0, none⟩) n cap)).run Tryz.prog w.drew = .ok (bv l).toArray w.drew := by
      refine run_firstCells_some w.drew 1 n ⟨g, 0, none⟩ n cap (bv l) (by rw [hlen]; omega) ?_
      intro j u hu
      have hj : j < n := by rw [← hlen]; exact (List.getElem?_eq_some_iff.1 hu).1
      have hB : Box w.drew g 5 cur.toList := by unfold Box; exact hg
      rw [show (⟨g, 0, none⟩ : Addr).add j = ⟨g, j, none⟩ from by unfold Addr.add; split <;> simp_all, hB.cell j, ← hu, ← htake, List.getElem?_take_of_lt hj]
    have hge := grownCap_ge w (n + 52) cap 5
    have hcm2 : grownCap w (n + 52) cap 5 ≤ maxLen := grownCap_le_maxLen w (n + 52) cap 5 (by unfold maxLen; omega)
    refine ⟨.slice (some ⟨w.heap.size, 0, none⟩) (n + 52) (grownCap w (n + 52) cap 5), w.drew.alloc (.cells ((bv l).toArray ++ ((bv z52).toArray ++ Builtin.zeroCells (Value.int .u8 0).cells (grownCap w (n + 52) cap 5 - (n + 52)))) 5), ?_, ?_, ?_⟩
    · simp [Builtin.append_, run_underlying Tryz.underlying40, run_underlying Tryz.underlying3, sizeOf, typeInfo, hi, hz0, hz1, hz2, zeroValue, hroom, Addr.add_lit, zeros52', hai, h52, hn63, hfit, Question.forced, holds, newRow, grownCap]
      intro h
      exfalso
      omega
    · refine ⟨by rw [hL, Nat.mul_one], .inr ⟨w.heap.size, _, _, rfl, hbase, heap_alloc_new w.drew _, hge, hcm2, ?_, ?_⟩⟩
      · simp only [Array.size_append, List.size_toArray, size_zeroCells, hlen, bv_length, z52_len]
        simp [Value.cells]
        omega
      · simp only [Array.toList_append, List.toList_toArray]
        rw [Nat.mul_one, ← List.append_assoc, ← bv_append, ← hL]
        exact List.take_left
    · exact ⟨rfl, rfl, rfl, by simp, fun k hk _ => heap_alloc_old w.drew _ hk⟩
theorem wpList_append_zeros {w : World} {ops : Array Oper} {rest : List Oper} {o : Oper} {a : Act} {Q : Exit → Act → World → Prop} (hgd : o.guard = none) (s : Operand) (ho : o.op = .call { callee := .builtin .append, args := #[s, .const (.int .i64 52)], argTypes := #[40, 3] }) (B g n cap : Nat) (l : List UInt8) (hs : a.eval s = .slice (some ⟨g, 0, none⟩) n cap) (hown : w.ownsRow B 5 1 (.slice (some ⟨g, 0, none⟩) n cap) n (bv l)) (hn : n ≤ 1000000) (hbase : B ≤ w.heap.size) (w0 : World) (hb : Below B w0 w)
    (h : ∀ v' w', w'.ownsRow B 5 1 v' (n + 52) (bv (l ++ z52)) → Below B w0 w' → wpList Tryz.prog ops Q rest (a.put o.dst v') w') : wpList Tryz.prog ops Q (o :: rest) a w := by
  refine wpList_plain hgd fun K hK => ?_
  obtain ⟨v', w', hrun, h1, h2⟩ := run_append_zeros o.type hown hn hbase
  have hbg : B ≤ g := (hown.lt g rfl).1
  unfold Go.Oper.wp execOp
  have hc : a.eval (.const (.int .i64 52)) = .int .i64 52 := rfl
  simp only [ho, resolve, invoke, builtin, Sem.run_bind, Sem.run_pure, Result.andThen_ok, List.map_toArray, List.map_cons, List.map_nil, hs, hc, hrun]
  exact hK _ _ (h v' w' h1 (hb.grown h2 hbase fun k hk => by cases hk; exact hbg))
end Go.Proofs.YtfakboehmcimpaaGreat

namespace Go.Proofs.YtfakboehmcimpaaGreat
open Go.ChangeShapes Go.WideShapes Go.ChangeAt Go.RowKit
set_option linter.unusedVariables false
set_option maxRecDepth 4000
set_option linter.unusedSimpArgs false
/-! What the landed sense does, said; proved in P4. -/
def IConS (f : FuncId) (s : Sns) : Prop := ∀ w : World, Calls Tryz.prog f #[] w fun e w' => e = .returned (sval s) ∧ Later w w'
def IBytesS : Prop := ∀ (s : Sns) (w : World), OkS s → Calls Tryz.prog 59 #[sval s] w fun e w' => ∃ v, e = .returned v ∧ Later w w' ∧ Bs w' v (bytesL s)
def IGoodS : Prop := ∀ (s : Sns) (w : World), OkS s → Calls Tryz.prog 55 #[sval s] w fun e w' => e = .returned (.bool (s == (0, 0, 0))) ∧ Later w w'
end Go.Proofs.YtfakboehmcimpaaGreat

namespace Go.Proofs.YtfakboehmcimpaaGreat
open Go.ChangeShapes Go.WideShapes Go.ChangeAt Go.RowKit
set_option linter.unusedVariables false
set_option maxRecDepth 4000
set_option linter.unusedSimpArgs false
end Go.Proofs.YtfakboehmcimpaaGreat

namespace Go.Proofs.YtfakboehmcimpaaGreat
open Go.ChangeShapes Go.WideShapes Go.ChangeAt Go.RowKit
set_option linter.unusedVariables false
set_option maxRecDepth 4000
set_option linter.unusedSimpArgs false
/-! The landed sense: the sixteen senses, Good, Bytes. -/
theorem con_NotReady : IConS 57 (2, 58, 0) := by
  intro w
  have B0 := hide (Box.new w 30 #[.int .i64 2, .int .i64 58, .int .i64 0])
  have L0 := hide ((Later.refl w).alloc (.cells #[.int .i64 2, .int .i64 58, .int .i64 0] 30))
  go_enter Tryz.func57, Tryz.ntmps57
  go_wp2
  exact bodyPost_ret (results_cell1 rfl _ _ _ w.heap.size 0 rfl (sval (2, 58, 0)) (run_loadVar_mid _ _ _ _ [.int .i64 2, .int .i64 58, .int .i64 0] _ B0.out.range Tryz.underlying30 rfl (by kernel_rfl))) rfl ⟨rfl, L0.out⟩
theorem con_Protected : IConS 92 (7, 39, 0) := by
  intro w
  have B0 := hide (Box.new w 30 #[.int .i64 7, .int .i64 39, .int .i64 0])
  have L0 := hide ((Later.refl w).alloc (.cells #[.int .i64 7, .int .i64 39, .int .i64 0] 30))
  go_enter Tryz.func92, Tryz.ntmps92
  go_wp2
  exact bodyPost_ret (results_cell1 rfl _ _ _ w.heap.size 0 rfl (sval (7, 39, 0)) (run_loadVar_mid _ _ _ _ [.int .i64 7, .int .i64 39, .int .i64 0] _ B0.out.range Tryz.underlying30 rfl (by kernel_rfl))) rfl ⟨rfl, L0.out⟩
theorem con_Kept : IConS 110 (5, 83, 2) := by
  intro w
  have B0 := hide (Box.new w 30 #[.int .i64 5, .int .i64 83, .int .i64 2])
  have L0 := hide ((Later.refl w).alloc (.cells #[.int .i64 5, .int .i64 83, .int .i64 2] 30))
  go_enter Tryz.func110, Tryz.ntmps110
  go_wp2
  exact bodyPost_ret (results_cell1 rfl _ _ _ w.heap.size 0 rfl (sval (5, 83, 2)) (run_loadVar_mid _ _ _ _ [.int .i64 5, .int .i64 83, .int .i64 2] _ B0.out.range Tryz.underlying30 rfl (by kernel_rfl))) rfl ⟨rfl, L0.out⟩
theorem con_Range : IConS 95 (5, 33, 0) := by
  intro w
  have B0 := hide (Box.new w 30 #[.int .i64 5, .int .i64 33, .int .i64 0])
  have L0 := hide ((Later.refl w).alloc (.cells #[.int .i64 5, .int .i64 33, .int .i64 0] 30))
  go_enter Tryz.func95, Tryz.ntmps95
  go_wp2
  exact bodyPost_ret (results_cell1 rfl _ _ _ w.heap.size 0 rfl (sval (5, 33, 0)) (run_loadVar_mid _ _ _ _ [.int .i64 5, .int .i64 33, .int .i64 0] _ B0.out.range Tryz.underlying30 rfl (by kernel_rfl))) rfl ⟨rfl, L0.out⟩
theorem con_Field : IConS 61 (5, 36, 0) := by
  intro w
  have B0 := hide (Box.new w 30 #[.int .i64 5, .int .i64 36, .int .i64 0])
  have L0 := hide ((Later.refl w).alloc (.cells #[.int .i64 5, .int .i64 36, .int .i64 0] 30))
  go_enter Tryz.func61, Tryz.ntmps61
  go_wp2
  exact bodyPost_ret (results_cell1 rfl _ _ _ w.heap.size 0 rfl (sval (5, 36, 0)) (run_loadVar_mid _ _ _ _ [.int .i64 5, .int .i64 36, .int .i64 0] _ B0.out.range Tryz.underlying30 rfl (by kernel_rfl))) rfl ⟨rfl, L0.out⟩
theorem con_Unknown : IConS 29 (5, 32, 0) := by
  intro w
  have B0 := hide (Box.new w 30 #[.int .i64 5, .int .i64 32, .int .i64 0])
  have L0 := hide ((Later.refl w).alloc (.cells #[.int .i64 5, .int .i64 32, .int .i64 0] 30))
  go_enter Tryz.func29, Tryz.ntmps29
  go_wp2
  exact bodyPost_ret (results_cell1 rfl _ _ _ w.heap.size 0 rfl (sval (5, 32, 0)) (run_loadVar_mid _ _ _ _ [.int .i64 5, .int .i64 32, .int .i64 0] _ B0.out.range Tryz.underlying30 rfl (by kernel_rfl))) rfl ⟨rfl, L0.out⟩
theorem con_Saving : IConS 64 (5, 57, 0) := by
  intro w
  have B0 := hide (Box.new w 30 #[.int .i64 5, .int .i64 57, .int .i64 0])
  have L0 := hide ((Later.refl w).alloc (.cells #[.int .i64 5, .int .i64 57, .int .i64 0] 30))
  go_enter Tryz.func64, Tryz.ntmps64
  go_wp2
  exact bodyPost_ret (results_cell1 rfl _ _ _ w.heap.size 0 rfl (sval (5, 57, 0)) (run_loadVar_mid _ _ _ _ [.int .i64 5, .int .i64 57, .int .i64 0] _ B0.out.range Tryz.underlying30 rfl (by kernel_rfl))) rfl ⟨rfl, L0.out⟩
theorem con_PowerOn : IConS 129 (6, 41, 0) := by
  intro w
  have B0 := hide (Box.new w 30 #[.int .i64 6, .int .i64 41, .int .i64 0])
  have L0 := hide ((Later.refl w).alloc (.cells #[.int .i64 6, .int .i64 41, .int .i64 0] 30))
  go_enter Tryz.func129, Tryz.ntmps129
  go_wp2
  exact bodyPost_ret (results_cell1 rfl _ _ _ w.heap.size 0 rfl (sval (6, 41, 0)) (run_loadVar_mid _ _ _ _ [.int .i64 6, .int .i64 41, .int .i64 0] _ B0.out.range Tryz.underlying30 rfl (by kernel_rfl))) rfl ⟨rfl, L0.out⟩
theorem con_NewMedium : IConS 108 (6, 40, 0) := by
  intro w
  have B0 := hide (Box.new w 30 #[.int .i64 6, .int .i64 40, .int .i64 0])
  have L0 := hide ((Later.refl w).alloc (.cells #[.int .i64 6, .int .i64 40, .int .i64 0] 30))
  go_enter Tryz.func108, Tryz.ntmps108
  go_wp2
  exact bodyPost_ret (results_cell1 rfl _ _ _ w.heap.size 0 rfl (sval (6, 40, 0)) (run_loadVar_mid _ _ _ _ [.int .i64 6, .int .i64 40, .int .i64 0] _ B0.out.range Tryz.underlying30 rfl (by kernel_rfl))) rfl ⟨rfl, L0.out⟩
theorem sgood_c : IGoodS := by
  intro s w hs
  have BX := hide (Box.new w 30 #[.int .i64 s.1, .int .i64 s.2.1, .int .i64 s.2.2])
  have L0 := hide ((Later.refl w).alloc (.cells #[.int .i64 s.1, .int .i64 s.2.1, .int .i64 s.2.2] 30))
  go_enter Tryz.func55, Tryz.ntmps55
  go_wp2_with (refine wpList_eqS (by kernel_rfl) (.tmp 3) (.tmp 4) rfl s (0, 0, 0) rfl rfl ?_)
  go_ret
  exact ⟨rfl, L0.out⟩
theorem run_make18 (w : World) : (Instr.makeSlice 40 (.int .i64 18) (.int .i64 18)).run Tryz.prog w = .ok (.slice (some ⟨w.heap.size, 0, none⟩) 18 18) (w.alloc (.cells #[.int .u8 0, .int .u8 0, .int .u8 0, .int .u8 0, .int .u8 0, .int .u8 0, .int .u8 0, .int .u8 0, .int .u8 0, .int .u8 0, .int .u8 0, .int .u8 0, .int .u8 0, .int .u8 0, .int .u8 0, .int .u8 0, .int .u8 0, .int .u8 0] 5)) := by
  have := run_make_row' (P := Tryz.prog) 40 5 (.int .u8 0) 1 Tryz.underlying40 Tryz.info_u8 rfl .i64 .i64 18 (by decide) (by decide) w
  rw [show madeCells #[Value.int .u8 0] 18 = #[.int .u8 0, .int .u8 0, .int .u8 0, .int .u8 0, .int .u8 0, .int .u8 0, .int .u8 0, .int .u8 0, .int .u8 0, .int .u8 0, .int .u8 0, .int .u8 0, .int .u8 0, .int .u8 0, .int .u8 0, .int .u8 0, .int .u8 0, .int .u8 0] from by apply Array.toList_inj.1; rw [show (#[Value.int .u8 0] : Array Value) = Array.replicate 1 (.int .u8 0) from rfl, madeCells_rep _ 1 18 (by decide)]; rfl] at this
  exact this
set_option maxRecDepth 20000 in
set_option maxHeartbeats 1000000 in
theorem sbytes_c : IBytesS := by
  intro s w hs
  have BX := hide (Box.new w 30 #[.int .i64 s.1, .int .i64 s.2.1, .int .i64 s.2.2])
  have L0 := hide ((Later.refl w).alloc (.cells #[.int .i64 s.1, .int .i64 s.2.1, .int .i64 s.2.2] 30))
  have hmk := run_make18
  go_enter Tryz.func59, Tryz.ntmps59
  go_wp2
  go_ret
  refine ⟨_, rfl, ((Later.refl w).alloc _).alloc _, ?_⟩
  refine bs_of_box (Box.new' _ _ _ _ rfl _ (by simp)) ?_ (bytesL_length s) (by omega)
  simp [bv, bytesL, b8_nat]
end Go.Proofs.YtfakboehmcimpaaGreat

namespace Go.Proofs.YtfakboehmcimpaaGreat
open Go.ChangeShapes Go.WideShapes Go.ChangeAt Go.RowKit
set_option linter.unusedVariables false
set_option maxRecDepth 4000
set_option linter.unusedSimpArgs false
/-! Ops, and their classes. -/
def classI (op : Int) : Int := if op = 8 ∨ op = 40 ∨ op = 168 ∨ op = 136 then 1 else if op = 10 ∨ op = 42 ∨ op = 170 ∨ op = 138 then 2 else if op = 47 ∨ op = 175 ∨ op = 143 then 3 else if op = 53 ∨ op = 145 then 4 else 0
theorem class_cases (op : Int) : (op = 8 ∨ op = 40 ∨ op = 168 ∨ op = 136 ∨ op = 10 ∨ op = 42 ∨ op = 170 ∨ op = 138 ∨ op = 47 ∨ op = 175 ∨ op = 143 ∨ op = 53 ∨ op = 145) ∨ (op ≠ 8 ∧ op ≠ 40 ∧ op ≠ 168 ∧ op ≠ 136 ∧ op ≠ 10 ∧ op ≠ 42 ∧ op ≠ 170 ∧ op ≠ 138 ∧ op ≠ 47 ∧ op ≠ 175 ∧ op ≠ 143 ∧ op ≠ 53 ∧ op ≠ 145) := by omega
theorem class_other {op : Int} (h : op ≠ 8 ∧ op ≠ 40 ∧ op ≠ 168 ∧ op ≠ 136 ∧ op ≠ 10 ∧ op ≠ 42 ∧ op ≠ 170 ∧ op ≠ 138 ∧ op ≠ 47 ∧ op ≠ 175 ∧ op ≠ 143 ∧ op ≠ 53 ∧ op ≠ 145) : classI op = 0 := by
  unfold classI; simp [h]
set_option maxHeartbeats 1000000 in
theorem class_c (op : Int) (w : World) : Calls Tryz.prog 16 #[.int .i64 op] w fun e w' => e = .returned (.int .i64 (classI op)) ∧ w' = w := by
  rcases class_cases op with h | h
  · rcases h with rfl | rfl | rfl | rfl | rfl | rfl | rfl | rfl | rfl | rfl | rfl | rfl | rfl <;>
    · go_enter Tryz.func16, Tryz.ntmps16
      go_wp2
      go_ret
      exact ⟨rfl, rfl⟩
  · have hc := hide (class_other h)
    obtain ⟨h1, h2, h3, h4, h5, h6, h7, h8, h9, h10, h11, h12, h13⟩ := h
    go_enter Tryz.func16, Tryz.ntmps16
    go_wp2
    go_ret
    exact ⟨by rw [hc.out]; rfl, rfl⟩
set_option maxHeartbeats 1000000 in
theorem rclass_c (op : Int) (w : World) : Calls Tryz.prog 44 #[.int .i64 op] w fun e w' => e = .returned (.int .i64 (classI op)) ∧ w' = w := by
  rcases class_cases op with h | h
  · rcases h with rfl | rfl | rfl | rfl | rfl | rfl | rfl | rfl | rfl | rfl | rfl | rfl | rfl <;>
    · go_enter Tryz.func44, Tryz.ntmps44
      go_wp2
      go_ret
      exact ⟨rfl, rfl⟩
  · have hc := hide (class_other h)
    obtain ⟨h1, h2, h3, h4, h5, h6, h7, h8, h9, h10, h11, h12, h13⟩ := h
    go_enter Tryz.func44, Tryz.ntmps44
    go_wp2
    go_ret
    exact ⟨by rw [hc.out]; rfl, rfl⟩
/-! Where a number stands. -/
end Go.Proofs.YtfakboehmcimpaaGreat

namespace Go.Proofs.YtfakboehmcimpaaGreat
open Go.ChangeShapes Go.WideShapes Go.ChangeAt Go.RowKit
set_option linter.unusedVariables false
set_option maxRecDepth 4000
set_option linter.unusedSimpArgs false
/-! How a command's bytes say it: at, n, page, bits, none, what must be. -/
/-- a store into a variable: the world behind it stands by itself -/
theorem wpList_storeU {P : Program} {w : World} {ops : Array Oper} {rest : List Oper} {op : Oper} {a : Act} {Q : Exit → Act → World → Prop} (hgd : op.guard = none) (ty : TypeId) (x y : Operand) (ho : op.op = .store ty x y) (g o : Nat) (hx : a.eval x = .pointer (some ⟨g, o, none⟩)) (vs : List Value) (hy : a.eval y = .agg vs.toArray)
    (hi : (P.info? ty).map (·.size) = some vs.length) (h1 : ∀ u ∈ vs, u.oneCell' = true) (t : TypeId) (cs : List Value) (hB : Box w g t cs) (hl : o + vs.length ≤ cs.length)
    (h : ∀ w', Hid (w' = w.setCells g o vs) → wpList P ops Q rest (a.put op.dst undef) w') : wpList P ops Q (op :: rest) a w :=
  wpList_store_mid hgd ty x y ho g o vs.toArray hx hy (by simpa using hB.there o vs.length hl) (by simpa using hi) (all_oneCell_toArray h1) (h _ rfl)
end Go.Proofs.YtfakboehmcimpaaGreat

namespace Go.Proofs.YtfakboehmcimpaaGreat
open Go.ChangeShapes Go.WideShapes Go.ChangeAt Go.RowKit
set_option linter.unusedVariables false
set_option maxRecDepth 4000
set_option linter.unusedSimpArgs false
/-! Page: one. -/
def pageL (page lun : Int) (there : Bool) : List UInt8 :=
  if page = 0 then [firstB there, 0, 0, 4, 0, 128, 131, 176]
  else if page = 128 then [firstB there, 128, 0, 8] ++ serL lun
  else if page = 131 then [firstB there, 131, 0, 20, 2, 1, 0, 16] ++ ([82, 69, 84, 73, 67, 85, 76, 69] ++ serL lun)
  else if page = 176 then [firstB there, 176, 0, 60, 0, 0, 0, 0, 0, 0, 0, 64] ++ z52
  else []
def pageS (page : Int) : Sns := if page = 0 ∨ page = 128 ∨ page = 131 ∨ page = 176 then (0, 0, 0) else (5, 36, 0)
/-- '[]byte(s)': the world behind it stands by itself -/
theorem wpList_strbytes {w : World} {ops : Array Oper} {rest : List Oper} {o : Oper} {a : Act} {Q : Exit → Act → World → Prop} (hg : o.guard = none) (x : Operand) (hop : o.op = Op.convert 9 40 x) (l : List UInt8) (hx : a.eval x = .string (strOf l)) (hm : l.length ≤ 1000000)
    (h : ∀ v' w', Bs w' v' l → Later w w' → wpList Tryz.prog ops Q rest (a.put o.dst v') w') : wpList Tryz.prog ops Q (o :: rest) a w := by
  refine wpList_plain hg fun K hK => ?_
  have hrun := Lib.run_convert_string_bytes (P := Tryz.prog) w 9 40 5 (strOf l) Tryz.underlying9 Tryz.underlying40 Tryz.underlying5
  have hsz : (strOf l).size = l.length := by simp [strOf, ByteArray.size]
  rw [hsz] at hrun
  unfold Go.Oper.wp
  simp [execOp, hop, hx, hrun, Result.andThen]
  exact hK _ _ (h _ _ (bs_bytes w l hm) (later_bytes w _ _))
/-- bytes lie in no sense -/
theorem Bs.setSns7 {w : World} {v : Value} {l : List UInt8} (h : Bs w v l) {g : Nat} {t : TypeId} {s : Sns} (hB : Box w g t (sc s)) (vs : List Value) (o : Nat) : Bs (w.setCells g o vs) v l := by
  obtain ⟨h1, a, cap, rfl, h2, h3⟩ := h
  refine ⟨h1, a, cap, rfl, h2, ?_⟩
  rcases h3 with h3 | ⟨b, off, rfl, h3⟩
  · exact .inl h3
  · by_cases hl : l = []
    · exact .inl hl
    · have hp : 0 < l.length := List.length_pos_iff.2 hl
      have hne : b ≠ g := by
        intro e
        subst e
        have h4 := h3 0 hp
        rw [hB.cell] at h4
        have := List.mem_of_getElem? h4
        simp [sc] at this
      refine .inr ⟨b, off, rfl, fun j hj => ?_⟩
      have h0 := h3 j hj
      have e := heap_setCells_other w g b hne vs o
      unfold World.cell? at h0 ⊢
      simp only [e]
      exact h0
set_option maxHeartbeats 1000000 in
theorem rpage_0 (lun : Int) (there : Bool) (w : World) (hlun : -9223372036854775808 ≤ lun ∧ lun ≤ 9223372036854775807) : Calls Tryz.prog 80 #[.int .i64 0, .int .i64 lun, .bool there] w fun e w' => ∃ v, e = .returned (.tuple #[v, sval (pageS 0)]) ∧ Later w w' ∧ Bs w' v (pageL 0 lun there) := by
  have HL : Hid (pageL 0 lun there = ([firstB there, 0, 0, 4, 0, 128, 131, 176])) := rfl
  have HP : Hid (pageS 0 = (0, 0, 0)) := rfl
  have LL := hide ((Later.refl w).alloc (.cells #[.int .i64 0, .int .i64 0, .int .i64 0] 30))
  have BS : Hid (Box _ w.heap.size 30 (sc (0, 0, 0))) := Box.new w 30 #[.int .i64 0, .int .i64 0, .int .i64 0]
  go_enter Tryz.func80, Tryz.ntmps80
  go_wp2_with fail
  have hsz : Hid (w.heap.size < (w.alloc (.cells #[.int .i64 0, .int .i64 0, .int .i64 0] 30)).heap.size) := by simp [Hid]
  generalize w.alloc (.cells #[.int .i64 0, .int .i64 0, .int .i64 0] 30) = w1 at *
  refine (rfirst7_c there _).mono ?_
  rintro e w' ⟨rfl, hw⟩
  have hw2 := hw.symm
  subst hw2
  clear hw
  generalize firstB there = f at *
  go_wp2_with (at_builtin; refine wpList_append_bs rfl (.tmp 17) (.tmp 18) rfl w1.heap.size _ 3 [f, 0, 0] rfl (owns_box ((Box.new w1 5 #[.int .u8 (f.toNat : Int), .int .u8 0, .int .u8 0]).alloc _) rfl (by decide) (Nat.le_refl _)) _ ([4, 0, 128, 131, 176]) rfl (bs_of_box (Box.new' _ _ _ _ rfl _ (by simp)) rfl rfl (by decide)) (by decide) (by simp; omega) w1 (((Later.refl w1).alloc _).alloc _) ?_)
  intro v2 w2 ho hb hg
  have O2 := hide ho
  have L2 : Hid (Later w1 w2) := hb
  clear ho hb hg
  have V3 := hide (Bs.of_owns O2.out).1
  replace LL := hide (LL.out.trans L2.out)
  replace BS := hide (BS.out.later L2.out)
  go_wp2_with (refine wpList_storeU rfl 30 (.tmp 7) (.tmp 20) rfl w.heap.size 0 rfl (sc (0, 0, 0)) rfl Tryz.info_sense (sc_one _) _ _ BS.out (by simp) ?_)
  intro wz hz
  have BZ : Hid (Box wz w.heap.size 30 (sc (0, 0, 0))) := by rw [hz.out]; exact BS.out.all _ rfl
  have LZ : Hid (Later w wz) := by rw [hz.out]; exact LL.out.setCells (Nat.le_refl _) _ _
  have VZ := V3.out.setSns7 BS.out (sc (0, 0, 0)) 0
  rw [← hz.out] at VZ
  clear hz
  go_wp2
  refine bodyPost_ret (results_tmp_cell' rfl _ _ _ w.heap.size 0 rfl _ _ (run_loadVar_mid _ _ _ _ (sc (0, 0, 0)) _ BZ.out.range Tryz.underlying30 rfl Tryz.info_sense) rfl) rfl ⟨_, by rw [HP.out], LZ.out, by rw [HL.out]; exact VZ⟩
end Go.Proofs.YtfakboehmcimpaaGreat

namespace Go.Proofs.YtfakboehmcimpaaGreat
open Go.ChangeShapes Go.WideShapes Go.ChangeAt Go.RowKit
set_option linter.unusedVariables false
set_option maxRecDepth 4000
set_option linter.unusedSimpArgs false
theorem serL_len (lun : Int) : (serL lun).length = 8 := rfl
theorem ret_ser (l : List UInt8) : (⟨#[82, 69, 84, 73, 67, 85, 76, 69]⟩ : ByteArray) ++ strOf l = strOf ([82, 69, 84, 73, 67, 85, 76, 69] ++ l) := by
  apply ByteArray.ext
  simp [strOf, ByteArray.data_append]
set_option maxHeartbeats 1000000 in
theorem rpage_128 (lun : Int) (there : Bool) (w : World) (hlun : -9223372036854775808 ≤ lun ∧ lun ≤ 9223372036854775807) : Calls Tryz.prog 80 #[.int .i64 128, .int .i64 lun, .bool there] w fun e w' => ∃ v, e = .returned (.tuple #[v, sval (pageS 128)]) ∧ Later w w' ∧ Bs w' v (pageL 128 lun there) := by
  have HL : Hid (pageL 128 lun there = ([firstB there, 128, 0, 8] ++ serL lun)) := rfl
  have HP : Hid (pageS 128 = (0, 0, 0)) := rfl
  have LL := hide ((Later.refl w).alloc (.cells #[.int .i64 0, .int .i64 0, .int .i64 0] 30))
  have BS : Hid (Box _ w.heap.size 30 (sc (0, 0, 0))) := Box.new w 30 #[.int .i64 0, .int .i64 0, .int .i64 0]
  go_enter Tryz.func80, Tryz.ntmps80
  go_wp2_with fail
  have hsz : Hid (w.heap.size < (w.alloc (.cells #[.int .i64 0, .int .i64 0, .int .i64 0] 30)).heap.size) := by simp [Hid]
  generalize w.alloc (.cells #[.int .i64 0, .int .i64 0, .int .i64 0] 30) = w1 at *
  refine (rfirst7_c there _).mono ?_
  rintro e w' ⟨rfl, hw⟩
  have hw2 := hw.symm
  subst hw2
  clear hw
  generalize firstB there = f at *
  go_wp2_with (at_builtin; refine wpList_append_bs rfl (.tmp 23) (.tmp 24) rfl w1.heap.size _ 3 [f, 128, 0] rfl (owns_box ((Box.new w1 5 #[.int .u8 (f.toNat : Int), .int .u8 128, .int .u8 0]).alloc _) rfl (by decide) (Nat.le_refl _)) _ ([8]) rfl (bs_of_box (Box.new' _ _ _ _ rfl _ (by simp)) rfl rfl (by decide)) (by decide) (by simp; omega) w1 (((Later.refl w1).alloc _).alloc _) ?_)
  intro v2 w2 ho hb hg
  have O2 := hide ho
  have L2 : Hid (Later w1 w2) := hb
  clear ho hb hg
  go_wp2_with fail
  refine (rserial_c lun _ hlun).mono ?_
  rintro e w3 ⟨rfl, hl⟩
  replace O2 := hide (owns_later O2.out hl)
  replace L2 := hide (L2.out.trans hl)
  clear hl
  go_wp2_with (refine wpList_strbytes rfl (.tmp 27) rfl (serL lun) rfl (by rw [serL_len]; decide) ?_)
  intro v4 w4 hb4 hl4
  replace O2 := hide (owns_later O2.out hl4)
  replace L2 := hide (L2.out.trans hl4)
  have V4 := hide hb4
  clear hb4 hl4
  go_wp2_with (at_builtin; refine wpList_append_bs rfl (.tmp 25) (.tmp 28) rfl w1.heap.size v2 4 ([f, 128, 0] ++ [8]) rfl O2.out v4 (serL lun) rfl V4.out (by simp [serL_len]) L2.out.size w1 L2.out ?_)
  intro v5 w5 ho5 hb5 hg5
  have L5 : Later w1 w5 := hb5
  clear O2 L2 V4
  have V3 := hide (Bs.of_owns ho5).1
  replace LL := hide (LL.out.trans L5)
  replace BS := hide (BS.out.later L5)
  go_wp2_with (refine wpList_storeU rfl 30 (.tmp 7) (.tmp 30) rfl w.heap.size 0 rfl (sc (0, 0, 0)) rfl Tryz.info_sense (sc_one _) _ _ BS.out (by simp) ?_)
  intro wz hz
  have BZ : Hid (Box wz w.heap.size 30 (sc (0, 0, 0))) := by rw [hz.out]; exact BS.out.all _ rfl
  have LZ : Hid (Later w wz) := by rw [hz.out]; exact LL.out.setCells (Nat.le_refl _) _ _
  have VZ := V3.out.setSns7 BS.out (sc (0, 0, 0)) 0
  rw [← hz.out] at VZ
  clear hz
  go_wp2
  refine bodyPost_ret (results_tmp_cell' rfl _ _ _ w.heap.size 0 rfl _ _ (run_loadVar_mid _ _ _ _ (sc (0, 0, 0)) _ BZ.out.range Tryz.underlying30 rfl Tryz.info_sense) rfl) rfl ⟨_, by rw [HP.out], LZ.out, by rw [HL.out]; exact VZ⟩
set_option maxHeartbeats 1000000 in
theorem rpage_131 (lun : Int) (there : Bool) (w : World) (hlun : -9223372036854775808 ≤ lun ∧ lun ≤ 9223372036854775807) : Calls Tryz.prog 80 #[.int .i64 131, .int .i64 lun, .bool there] w fun e w' => ∃ v, e = .returned (.tuple #[v, sval (pageS 131)]) ∧ Later w w' ∧ Bs w' v (pageL 131 lun there) := by
  have HL : Hid (pageL 131 lun there = ([firstB there, 131, 0, 20, 2, 1, 0, 16] ++ ([82, 69, 84, 73, 67, 85, 76, 69] ++ serL lun))) := rfl
  have HP : Hid (pageS 131 = (0, 0, 0)) := rfl
  have LL := hide ((Later.refl w).alloc (.cells #[.int .i64 0, .int .i64 0, .int .i64 0] 30))
  have BS : Hid (Box _ w.heap.size 30 (sc (0, 0, 0))) := Box.new w 30 #[.int .i64 0, .int .i64 0, .int .i64 0]
  go_enter Tryz.func80, Tryz.ntmps80
  go_wp2_with fail
  have hsz : Hid (w.heap.size < (w.alloc (.cells #[.int .i64 0, .int .i64 0, .int .i64 0] 30)).heap.size) := by simp [Hid]
  generalize w.alloc (.cells #[.int .i64 0, .int .i64 0, .int .i64 0] 30) = w1 at *
  refine (rfirst7_c there _).mono ?_
  rintro e w' ⟨rfl, hw⟩
  have hw2 := hw.symm
  subst hw2
  clear hw
  generalize firstB there = f at *
  have hcat := ret_ser (serL lun)
  have hs8 : (strOf (serL lun)).size = 8 := rfl
  go_wp2_with (at_builtin; refine wpList_append_bs rfl (.tmp 33) (.tmp 34) rfl w1.heap.size _ 3 [f, 131, 0] rfl (owns_box ((Box.new w1 5 #[.int .u8 (f.toNat : Int), .int .u8 131, .int .u8 0]).alloc _) rfl (by decide) (Nat.le_refl _)) _ ([20, 2, 1, 0, 16]) rfl (bs_of_box (Box.new' _ _ _ _ rfl _ (by simp)) rfl rfl (by decide)) (by decide) (by simp; omega) w1 (((Later.refl w1).alloc _).alloc _) ?_)
  intro v2 w2 ho hb hg
  have O2 := hide ho
  have L2 : Hid (Later w1 w2) := hb
  clear ho hb hg
  go_wp2_with fail
  refine (rserial_c lun _ hlun).mono ?_
  rintro e w3 ⟨rfl, hl⟩
  replace O2 := hide (owns_later O2.out hl)
  replace L2 := hide (L2.out.trans hl)
  clear hl
  go_wp2_with (refine wpList_strbytes rfl (.tmp 38) rfl ([82, 69, 84, 73, 67, 85, 76, 69] ++ serL lun) rfl (by rw [List.length_append, serL_len]; decide) ?_)
  intro v4 w4 hb4 hl4
  replace O2 := hide (owns_later O2.out hl4)
  replace L2 := hide (L2.out.trans hl4)
  have V4 := hide hb4
  clear hb4 hl4
  go_wp2_with (at_builtin; refine wpList_append_bs rfl (.tmp 35) (.tmp 39) rfl w1.heap.size v2 8 ([f, 131, 0] ++ [20, 2, 1, 0, 16]) rfl O2.out v4 ([82, 69, 84, 73, 67, 85, 76, 69] ++ serL lun) rfl V4.out (by simp [serL_len]) L2.out.size w1 L2.out ?_)
  intro v5 w5 ho5 hb5 hg5
  have L5 : Later w1 w5 := hb5
  clear O2 L2 V4
  have V3 := hide (Bs.of_owns ho5).1
  replace LL := hide (LL.out.trans L5)
  replace BS := hide (BS.out.later L5)
  go_wp2_with (refine wpList_storeU rfl 30 (.tmp 7) (.tmp 41) rfl w.heap.size 0 rfl (sc (0, 0, 0)) rfl Tryz.info_sense (sc_one _) _ _ BS.out (by simp) ?_)
  intro wz hz
  have BZ : Hid (Box wz w.heap.size 30 (sc (0, 0, 0))) := by rw [hz.out]; exact BS.out.all _ rfl
  have LZ : Hid (Later w wz) := by rw [hz.out]; exact LL.out.setCells (Nat.le_refl _) _ _
  have VZ := V3.out.setSns7 BS.out (sc (0, 0, 0)) 0
  rw [← hz.out] at VZ
  clear hz
  go_wp2
  refine bodyPost_ret (results_tmp_cell' rfl _ _ _ w.heap.size 0 rfl _ _ (run_loadVar_mid _ _ _ _ (sc (0, 0, 0)) _ BZ.out.range Tryz.underlying30 rfl Tryz.info_sense) rfl) rfl ⟨_, by rw [HP.out], LZ.out, by rw [HL.out]; exact VZ⟩
set_option maxHeartbeats 1000000 in
theorem rpage_176 (lun : Int) (there : Bool) (w : World) (hlun : -9223372036854775808 ≤ lun ∧ lun ≤ 9223372036854775807) : Calls Tryz.prog 80 #[.int .i64 176, .int .i64 lun, .bool there] w fun e w' => ∃ v, e = .returned (.tuple #[v, sval (pageS 176)]) ∧ Later w w' ∧ Bs w' v (pageL 176 lun there) := by
  have HL : Hid (pageL 176 lun there = ([firstB there, 176, 0, 60, 0, 0, 0, 0, 0, 0, 0, 64] ++ z52)) := rfl
  have HP : Hid (pageS 176 = (0, 0, 0)) := rfl
  have LL := hide ((Later.refl w).alloc (.cells #[.int .i64 0, .int .i64 0, .int .i64 0] 30))
  have BS : Hid (Box _ w.heap.size 30 (sc (0, 0, 0))) := Box.new w 30 #[.int .i64 0, .int .i64 0, .int .i64 0]
  go_enter Tryz.func80, Tryz.ntmps80
  go_wp2_with fail
  have hsz : Hid (w.heap.size < (w.alloc (.cells #[.int .i64 0, .int .i64 0, .int .i64 0] 30)).heap.size) := by simp [Hid]
  generalize w.alloc (.cells #[.int .i64 0, .int .i64 0, .int .i64 0] 30) = w1 at *
  refine (rfirst7_c there _).mono ?_
  rintro e w' ⟨rfl, hw⟩
  have hw2 := hw.symm
  subst hw2
  clear hw
  generalize firstB there = f at *
  go_wp2_with (at_builtin; refine wpList_append_bs rfl (.tmp 44) (.tmp 45) rfl w1.heap.size _ 3 [f, 176, 0] rfl (owns_box ((Box.new w1 5 #[.int .u8 (f.toNat : Int), .int .u8 176, .int .u8 0]).alloc _) rfl (by decide) (Nat.le_refl _)) _ ([60, 0, 0, 0, 0, 0, 0, 0, 64]) rfl (bs_of_box (Box.new' _ _ _ _ rfl _ (by simp)) rfl rfl (by decide)) (by decide) (by simp; omega) w1 (((Later.refl w1).alloc _).alloc _) ?_)
  intro v2 w2 ho hb hg
  have O2 := hide ho
  have L2 : Hid (Later w1 w2) := hb
  clear ho hb hg
  obtain ⟨g2, cap2, e2⟩ : ∃ g c, v2 = .slice (some ⟨g, 0, none⟩) 12 c := by
    obtain ⟨_, h | ⟨g, c, cur, e, _⟩⟩ := O2.out
    · obtain ⟨_, h⟩ := h; cases h
    · exact ⟨g, c, e⟩
  subst e2
  go_wp2_with (at_builtin; refine wpList_append_zeros rfl (.tmp 46) rfl w1.heap.size g2 12 cap2 ([f, 176, 0] ++ [60, 0, 0, 0, 0, 0, 0, 0, 64]) rfl O2.out (by decide) L2.out.size w1 L2.out ?_)
  intro v5 w5 ho5 hb5
  have L5 : Later w1 w5 := hb5
  clear O2 L2
  have V3 := hide (Bs.of_owns ho5).1
  replace LL := hide (LL.out.trans L5)
  replace BS := hide (BS.out.later L5)
  go_wp2_with (refine wpList_storeU rfl 30 (.tmp 7) (.tmp 48) rfl w.heap.size 0 rfl (sc (0, 0, 0)) rfl Tryz.info_sense (sc_one _) _ _ BS.out (by simp) ?_)
  intro wz hz
  have BZ : Hid (Box wz w.heap.size 30 (sc (0, 0, 0))) := by rw [hz.out]; exact BS.out.all _ rfl
  have LZ : Hid (Later w wz) := by rw [hz.out]; exact LL.out.setCells (Nat.le_refl _) _ _
  have VZ := V3.out.setSns7 BS.out (sc (0, 0, 0)) 0
  rw [← hz.out] at VZ
  clear hz
  go_wp2
  refine bodyPost_ret (results_tmp_cell' rfl _ _ _ w.heap.size 0 rfl _ _ (run_loadVar_mid _ _ _ _ (sc (0, 0, 0)) _ BZ.out.range Tryz.underlying30 rfl Tryz.info_sense) rfl) rfl ⟨_, by rw [HP.out], LZ.out, by rw [HL.out]; exact VZ⟩
end Go.Proofs.YtfakboehmcimpaaGreat

namespace Go.Proofs.YtfakboehmcimpaaGreat
open Go.ChangeShapes Go.WideShapes Go.ChangeAt Go.RowKit
set_option linter.unusedVariables false
set_option maxRecDepth 4000
set_option linter.unusedSimpArgs false
/-! Page, whatever it is. -/
set_option maxHeartbeats 1000000 in
theorem rpage_other (page lun : Int) (there : Bool) (w : World) (h0 : page ≠ 0) (h1 : page ≠ 128) (h2 : page ≠ 131) (h3 : page ≠ 176) : Calls Tryz.prog 80 #[.int .i64 page, .int .i64 lun, .bool there] w fun e w' => ∃ v, e = .returned (.tuple #[v, sval (pageS page)]) ∧ Later w w' ∧ Bs w' v (pageL page lun there) := by
  have HL : Hid (pageL page lun there = []) := by simp [Hid, pageL, h0, h1, h2, h3]
  have HP : Hid (pageS page = (5, 36, 0)) := by simp [Hid, pageS, h0, h1, h2, h3]
  have LL := hide ((Later.refl w).alloc (.cells #[.int .i64 0, .int .i64 0, .int .i64 0] 30))
  have BS : Hid (Box _ w.heap.size 30 (sc (0, 0, 0))) := Box.new w 30 #[.int .i64 0, .int .i64 0, .int .i64 0]
  go_enter Tryz.func80, Tryz.ntmps80
  go_wp2_with fail
  generalize w.alloc (.cells #[.int .i64 0, .int .i64 0, .int .i64 0] 30) = w1 at *
  refine (rfirst7_c there _).mono ?_
  rintro e w' ⟨rfl, hw⟩
  have hw2 := hw.symm
  subst hw2
  clear hw
  generalize firstB there = f at *
  go_wp2_with fail
  refine (rof_c 5 36 0 _).mono ?_
  rintro e w2 ⟨rfl, hl⟩
  replace LL := hide ((LL.out.alloc (.cells #[.int .u8 (f.toNat : Int), .int .u8 (page % 256), .int .u8 0] 5)).trans hl)
  replace BS := hide ((BS.out.alloc (.cells #[.int .u8 (f.toNat : Int), .int .u8 (page % 256), .int .u8 0] 5)).later hl)
  clear hl
  go_wp2_with (refine wpList_storeU rfl 30 (.tmp 7) (.tmp 49) rfl w.heap.size 0 rfl (sc (5, 36, 0)) rfl Tryz.info_sense (sc_one _) _ _ BS.out (by simp) ?_)
  intro wz hz
  have BZ : Hid (Box wz w.heap.size 30 (sc (5, 36, 0))) := by rw [hz.out]; exact BS.out.all _ rfl
  have LZ : Hid (Later w wz) := by rw [hz.out]; exact LL.out.setCells (Nat.le_refl _) _ _
  clear hz
  go_wp2
  refine bodyPost_ret (results_tmp_cell' rfl _ _ _ w.heap.size 0 rfl _ _ (run_loadVar_mid _ _ _ _ (sc (5, 36, 0)) _ BZ.out.range Tryz.underlying30 rfl Tryz.info_sense) rfl) rfl ⟨_, by rw [HP.out], LZ.out, by rw [HL.out]; exact Bs.nil _⟩
theorem rpage_c (page lun : Int) (there : Bool) (w : World) (hlun : -9223372036854775808 ≤ lun ∧ lun ≤ 9223372036854775807) : Calls Tryz.prog 80 #[.int .i64 page, .int .i64 lun, .bool there] w fun e w' => ∃ v, e = .returned (.tuple #[v, sval (pageS page)]) ∧ Later w w' ∧ Bs w' v (pageL page lun there) := by
  by_cases h0 : page = 0
  · subst h0; exact rpage_0 lun there w hlun
  by_cases h1 : page = 128
  · subst h1; exact rpage_128 lun there w hlun
  by_cases h2 : page = 131
  · subst h2; exact rpage_131 lun there w hlun
  by_cases h3 : page = 176
  · subst h3; exact rpage_176 lun there w hlun
  exact rpage_other page lun there w h0 h1 h2 h3
theorem pageL_len (page lun : Int) (there : Bool) : (pageL page lun there).length ≤ 64 := by
  unfold pageL
  split
  · simp
  split
  · simp [serL_len]
  split
  · simp [serL_len]
  split
  · simp [z52_len]
  · simp
end Go.Proofs.YtfakboehmcimpaaGreat

namespace Go.Proofs.YtfakboehmcimpaaGreat
open Go Go.RowKit
set_option linter.unusedVariables false
set_option maxRecDepth 4000
set_option linter.unusedSimpArgs false
/-! A region that draws its order and stores into memory that is younger than b0: operations that give the same value in every world later than b0 are taken first, wherever the stores stand; a store is taken where it alone may come up. -/
section
variable {P : Program} {ops : Array Oper} {md : Region.Mode} {b0 : World}
end
end Go.Proofs.YtfakboehmcimpaaGreat
