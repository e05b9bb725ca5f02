import Derived.Laws.Runes
import Derived.Deep.AppendSrc
import Derived.Test.YtcjdodkbnhkbiaaMAA
import Derived.Test.YtcjdodkbnhkbiaaMAG
import Derived.Test.YtcjdodkbnhkbiaaMAP
import Derived.Test.YtcjdodkbnhkbiaaMAH
import Derived.Test.YtcjdodkbnhkbiaaMAN
namespace Go.Proofs.Ytcjdodkbnhkbiaa
open Go.ChangeShapes Go.WideShapes Go.ChangeAt Go.RowKit
set_option linter.unusedVariables false
set_option linter.unusedSimpArgs false

/-! A command that comes in. -/
section
variable {H : Type} {enc : TypeId × Value → H} {w : World} {r : Reach} {base : Nat} {v : Value} {d : DataW H} {p : List MemPlace}
theorem Try.places_cmd7 : (Try.prog.fieldsOf 24).toList.map (fun f => (f.type, f.offset)) = [(3, 0), (22, 1), (3, 2), (3, 3), (3, 4)] := by kernel_rfl
theorem shape_cmd7 (fuel : Nat) (cs : List Value) (x : DataW H × List MemPlace) (h : DataW.trod enc Try.prog w 0 (fun _ => true) true fuel 24 cs = some x) : ∃ c : Cmd, OkC7 c ∧ cs = cc c := by
  obtain ⟨hl, m0, y0, h0⟩ := shape_field Try.is_cmd Try.places_cmd7 0 _ _ rfl h
  obtain ⟨_, m1, y1, h1⟩ := shape_field Try.is_cmd Try.places_cmd7 1 _ _ rfl h
  obtain ⟨_, m2, y2, h2⟩ := shape_field Try.is_cmd Try.places_cmd7 2 _ _ rfl h
  obtain ⟨_, m3, y3, h3⟩ := shape_field Try.is_cmd Try.places_cmd7 3 _ _ rfl h
  obtain ⟨_, m4, y4, h4⟩ := shape_field Try.is_cmd Try.places_cmd7 4 _ _ rfl h
  rw [show Try.prog.cellsOf 24 = 5 from by kernel_rfl] at hl
  rw [show Try.prog.cellsOf 3 = 1 from by kernel_rfl] at h0 h2 h3 h4
  rw [show Try.prog.cellsOf 22 = 1 from by kernel_rfl] at h1
  obtain ⟨n0, e0, w0⟩ := shape_int Try.underlying3 h0
  obtain ⟨n1, e1, w1⟩ := shape_int Try.underlying22 h1
  obtain ⟨n2, e2, w2⟩ := shape_int Try.underlying3 h2
  obtain ⟨n3, e3, w3⟩ := shape_int Try.underlying3 h3
  obtain ⟨n4, e4, w4⟩ := shape_int Try.underlying3 h4
  have b1 := bounds_u64 w1
  obtain ⟨m, rfl⟩ : ∃ m : Nat, n1 = m := ⟨n1.toNat, by omega⟩
  refine ⟨(n0, m, n2, n3, n4), ⟨bounds_i64 w0, by simp only; omega, bounds_i64 w2, bounds_i64 w3, bounds_i64 w4⟩, ?_⟩
  match cs, hl with
  | [x0, x1, x2, x3, x4], _ =>
    simp at e0 e1 e2 e3 e4
    rw [e0, e1, e2, e3, e4]
def RCmd7 (v : Value) : Prop := ∃ c : Cmd, OkC7 c ∧ v = cval c
theorem rd_cmd7 (hv : Value.okWide Try.prog w r base 24 v) (h : DataW.Trod enc Try.prog w 0 (fun _ => true) true 24 v d p) : RCmd7 v := by
  obtain ⟨cs, rfl, _⟩ := okWide_struct Try.is_cmd hv
  obtain ⟨fuel, hf⟩ := h
  obtain ⟨c, hc, e⟩ := shape_cmd7 fuel _ _ hf
  exact ⟨c, hc, agg_of (show cs.toList = _ from e)⟩
end
end Go.Proofs.Ytcjdodkbnhkbiaa

namespace Go.Proofs.Ytcjdodkbnhkbiaa
open Go.ChangeShapes Go.WideShapes Go.ChangeAt Go.RowKit
set_option linter.unusedVariables false
set_option linter.unusedSimpArgs false

/-! Three Booleans that come in. -/
section
variable {H : Type} {enc : TypeId × Value → H} {w : World} {r : Reach} {base : Nat} {v : Value} {d : DataW H} {p : List MemPlace}
def RB3 (v : Value) : Prop := ∃ a b c : Bool, v = .agg #[.bool a, .bool b, .bool c]
theorem rd_b3 (hv : Value.okWide Try.prog w r base 37 v) (h : DataW.Trod enc Try.prog w 0 (fun _ => true) true 37 v d p) : RB3 v := by
  unfold Value.okWide at hv
  rw [Try.underlying37] at hv
  obtain ⟨cs, rfl, hsz, _⟩ := hv
  rw [show Try.prog.cellsOf 37 = 3 from by kernel_rfl] at hsz
  obtain ⟨fuel, hf⟩ := h
  obtain ⟨xs, m, _, _, hl, hxs, hall⟩ := DataW.trod_array Try.underlying37 hf
  have hget : ∀ i, i < 3 → ∃ b : Bool, cs[i]? = some (.bool b) := by
    intro i hi
    have h1 := hall i hi
    rw [show Try.prog.cellsOf 4 = 1 from by kernel_rfl, Nat.mul_one] at h1
    have hlt : i < cs.toList.length := by rw [Array.length_toList]; omega
    have h2 : (List.drop i (Value.agg cs).cells.toList).take 1 = [cs[i]'(by omega)] := by
      show (List.drop i cs.toList).take 1 = _
      rw [List.drop_eq_getElem_cons hlt]
      simp
    rw [h2, List.getElem?_eq_getElem (by omega)] at h1
    obtain ⟨b, e0⟩ := shape_bool Try.underlying4 h1
    simp at e0
    exact ⟨b, by rw [Array.getElem?_eq_getElem (by omega), e0]⟩
  obtain ⟨a, ha⟩ := hget 0 (by omega)
  obtain ⟨b, hb⟩ := hget 1 (by omega)
  obtain ⟨c, hc⟩ := hget 2 (by omega)
  refine ⟨a, b, c, ?_⟩
  congr 1
  apply Array.ext
  · simp [hsz]
  · intro i h1 h2
    rw [hsz] at h1
    rcases (show i = 0 ∨ i = 1 ∨ i = 2 by omega) with rfl | rfl | rfl
    · rw [Array.getElem?_eq_getElem (by omega)] at ha
      simpa using ha
    · rw [Array.getElem?_eq_getElem (by omega)] at hb
      simpa using hb
    · rw [Array.getElem?_eq_getElem (by omega)] at hc
      simpa using hc
end
end Go.Proofs.Ytcjdodkbnhkbiaa

namespace Go.Proofs.Ytcjdodkbnhkbiaa
open Go.ChangeShapes Go.WideShapes Go.ChangeAt Go.RowKit
set_option linter.unusedVariables false
set_option linter.unusedSimpArgs false

/-! 'append(a, s...)', a our own, s a text. -/
theorem byteCells_str (m : List UInt8) : byteCells (strOf m) = bv m := by simp [byteCells, strOf, bv]
theorem strOf_size (m : List UInt8) : (strOf m).size = m.length := by simp [strOf, ByteArray.size]
set_option maxHeartbeats 1000000 in
theorem run_append_text {w : World} {B g n cap : Nat} {l : List UInt8} (ty : TypeId) (m : List UInt8) (hown : w.ownsRow B 5 1 (.slice (some ⟨g, 0, none⟩) n cap) n (bv l)) (hn : n + m.length ≤ 1000000) (hbase : B ≤ w.heap.size) :
    ∃ v' w', (Builtin.append_ #[26, 9] ty #[.slice (some ⟨g, 0, none⟩) n cap, .string (strOf m)]).run Try.prog w = .ok v' w' ∧ w'.ownsRow B 5 1 v' (n + m.length) (bv (l ++ m)) ∧ w.grownBy w' (some g) := by
  obtain ⟨i0, hi, hz0, hz1, hz2⟩ := info_parts Try.info_u8
  have hsrc : Src Try.prog i0.size 9 (.string (strOf m)) m.length (bv m) w := by
    have := Src.ofString (P := Try.prog) w (tx := 9) Try.underlying9 (strOf m)
    rw [strOf_size, byteCells_str] at this
    rw [hz1]
    exact this
  obtain ⟨hlen, h | ⟨g', cap', cur, e, hbg, hg, hnc, hcm, hcs, htake⟩⟩ := hown
  · obtain ⟨h, _⟩ := h; cases h
  simp at e
  obtain ⟨rfl, rfl⟩ := e
  rw [Nat.mul_one] at hlen hcs htake
  have hL : (bv (l ++ m)).length = n + m.length := by rw [bv_append, List.length_append, hlen, bv_length]
  have hB : Box w g 5 cur.toList := by unfold Box; rw [hg]
  by_cases hroom : n + m.length ≤ cap
  · have hrun := run_append_room_src (P := Try.prog) w 26 9 ty 5 i0 Try.underlying26 hi g 0 n cap (.string (strOf m)) m.length (bv m) hsrc hroom (fun j hj => by rw [hz1, hB.cell]; rw [bv_length] at hj; simp; omega) (fun j hj => hB.frozen _)
    rw [hz1, Nat.mul_one, Nat.zero_add] at hrun
    have hB2 := hB.setCells (bv m) n (by rw [bv_length]; simp; omega)
    refine ⟨.slice (some ⟨g, 0, none⟩) (n + m.length) cap, w.setCells g n (bv m), hrun, ?_, ?_⟩
    · refine ⟨by rw [hL, Nat.mul_one], .inr ⟨g, cap, _, rfl, hbg, hB2, hroom, hcm, ?_, ?_⟩⟩
      · simp [bv_length]; omega
      · rw [Nat.mul_one, htake, ← bv_append, ← hL]
        exact List.take_left
    · have hlt := hB.lt
      exact ⟨(below_setCells (Below.refl g w) (Nat.le_refl _) _ _).os, (below_setCells (Below.refl g w) (Nat.le_refl _) _ _).tape, (below_setCells (Below.refl g w) (Nat.le_refl _) _ _).output, (below_setCells (Below.refl g w) (Nat.le_refl _) _ _).size, fun k hk hne => heap_setCells_other w g k (fun e => hne (by rw [e])) _ _⟩
  · have hfit : Builtin.nextslicecap (n + m.length) cap * i0.bytes ≤ 281474976710656 := by
      rw [hz2]
      have := growslice_fits (need := n + m.length) (old := cap) (bytes := 1) (by omega) (by omega)
      omega
    have holds : (Builtin.firstCells i0.size n (.slice (some ⟨g, 0, none⟩) n cap)).run Try.prog w.drew = .ok (bv l).toArray w.drew := by
      rw [hz1]
      refine run_firstCells_some w.drew 1 n ⟨g, 0, none⟩ n cap (bv l) (by rw [hlen]; omega) ?_
      intro j u hu
      have hj : j < n := by rw [← hlen]; exact (List.getElem?_eq_some_iff.1 hu).1
      have hB : Box w.drew g 5 cur.toList := by unfold Box; exact hg
      rw [show (⟨g, 0, none⟩ : Addr).add j = ⟨g, j, none⟩ from by unfold Addr.add; split <;> simp_all, hB.cell j, ← hu, ← htake, List.getElem?_take_of_lt hj]
    have hrun := run_append_grow_src (P := Try.prog) w 26 9 ty 5 i0 (.int .u8 0) Try.underlying26 hi hz0 (some ⟨g, 0, none⟩) n cap (bv l) holds (.string (strOf m)) m.length (bv m) hsrc (by omega) (by omega) hfit
    have hge := grownCap_ge w (n + m.length) cap 5
    have hcm2 : grownCap w (n + m.length) cap 5 ≤ maxLen := grownCap_le_maxLen w (n + m.length) cap 5 (by unfold maxLen; omega)
    refine ⟨_, _, hrun, ?_, ?_⟩
    · refine ⟨by rw [hL, Nat.mul_one], .inr ⟨w.heap.size, _, _, rfl, hbase, heap_alloc_new w.drew _, hge, hcm2, ?_, ?_⟩⟩
      · simp only [Array.size_append, List.size_toArray, size_zeroCells, List.length_append, hlen, bv_length]
        simp [Value.cells]
        omega
      · simp only [Array.toList_append, List.toList_toArray]
        rw [Nat.mul_one, ← bv_append, ← hL]
        exact List.take_left
    · exact ⟨rfl, rfl, rfl, by simp, fun k hk _ => heap_alloc_old w.drew _ hk⟩
theorem owns_slice {w : World} {B n : Nat} {v : Value} {l : List UInt8} (hown : w.ownsRow B 5 1 v n (bv l)) (hp : 0 < n) : ∃ g cap, v = .slice (some ⟨g, 0, none⟩) n cap := by
  obtain ⟨_, h | ⟨g, cap, cur, e, _⟩⟩ := hown
  · obtain ⟨_, h⟩ := h; omega
  · exact ⟨g, cap, e⟩
theorem wpList_append_text {w : World} {ops : Array Oper} {rest : List Oper} {o : Oper} {a : Act} {Q : Exit → Act → World → Prop} (hgd : o.guard = none) (s x : Operand) (ho : o.op = .call { callee := .builtin .append, args := #[s, x], argTypes := #[26, 9] }) (B n : Nat) (v : Value) (l m : List UInt8) (hs : a.eval s = v) (hx : a.eval x = .string (strOf m)) (hown : w.ownsRow B 5 1 v n (bv l)) (hp : 0 < n) (hn : n + m.length ≤ 1000000) (hbase : B ≤ w.heap.size) (w0 : World) (hb : Below B w0 w)
    (h : ∀ v' w', w'.ownsRow B 5 1 v' (n + m.length) (bv (l ++ m)) → Below B w0 w' → wpList Try.prog ops Q rest (a.put o.dst v') w') : wpList Try.prog ops Q (o :: rest) a w := by
  obtain ⟨g, cap, rfl⟩ := owns_slice hown hp
  refine wpList_plain hgd fun K hK => ?_
  obtain ⟨v', w', hrun, h1, h2⟩ := run_append_text o.type m hown hn hbase
  have hbg : B ≤ g := (hown.lt g rfl).1
  unfold Go.Oper.wp execOp
  simp only [ho, resolve, invoke, builtin, Sem.run_bind, Sem.run_pure, Result.andThen_ok, List.map_toArray, List.map_cons, List.map_nil, hs, hx, hrun]
  exact hK _ _ (h v' w' h1 (hb.grown h2 hbase fun k hk => by cases hk; exact hbg))

/-! The landed inquiry: first, Serial, Standard. -/
end Go.Proofs.Ytcjdodkbnhkbiaa

namespace Go.Proofs.Ytcjdodkbnhkbiaa
open Go.ChangeShapes Go.WideShapes Go.ChangeAt Go.RowKit
set_option linter.unusedVariables false
set_option linter.unusedSimpArgs false

theorem i64_and7 (n : Int) : bits .and .i64 n 7 = n % 8 := by
  have h7 : (BitVec.ofInt 64 7).toNat = 2 ^ 3 - 1 := by decide
  have key : (BitVec.ofInt 64 n &&& BitVec.ofInt 64 7).toNat = (n % ((2 ^ 64 : Nat) : Int)).toNat % 2 ^ 3 := by
    rw [BitVec.toNat_and, BitVec.toNat_ofInt, h7, Nat.and_two_pow_sub_one_eq_mod]
  show IntKind.i64.wrap ((BitVec.ofInt 64 n &&& BitVec.ofInt 64 7).toNat : Nat) = n % 8
  rw [key, IntKind.wrap_i64]
  omega
end Go.Proofs.Ytcjdodkbnhkbiaa

namespace Go.Proofs.Ytcjdodkbnhkbiaa
open Go.ChangeShapes Go.WideShapes Go.ChangeAt Go.RowKit
set_option linter.unusedVariables false
set_option linter.unusedSimpArgs false

/-! The landed inquiry: Cut. -/
set_option maxHeartbeats 1000000 in
theorem cut7_c : ICut7 := by
  intro v l n w h hs hn64
  have HB := hide h
  obtain ⟨hlm, ad, cap, rfl, hcap, _⟩ := h
  clear hlm
  obtain ⟨k, hk⟩ : ∃ k, k = l.length := ⟨_, rfl⟩
  rw [← hk] at HB hcap hs ⊢
  have HK := hide hk
  clear hk
  by_cases h0 : n < 0
  · have HC : Hid (cutL l n = []) := by rw [Hid, cutL, if_pos h0]
    clear hn64
    go_enter Try.func19, Try.ntmps19
    go_wp2
    go_ret
    exact ⟨_, rfl, Later.refl _, by rw [HC.out]; exact Bs.nil _⟩
  have hb0 : decide (n < 0) = false := by simp; omega
  obtain ⟨m, hm⟩ : ∃ m : Nat, m = min n.toNat k := ⟨_, rfl⟩
  have hmin : (if (k : Int) < n then (k : Int) else n) = (m : Int) := by split <;> omega
  have hmk : m ≤ k := by omega
  have HC : Hid (cutL l n = l.take m) := by
    rw [Hid, cutL, if_neg h0]
    by_cases hh : n.toNat ≤ k
    · rw [show m = n.toNat by omega]
    · rw [List.take_of_length_le (by have := HK.out; omega), List.take_of_length_le (by have := HK.out; omega)]
  have s1 : (m : Int) ≤ (cap : Int) := by omega
  have HM := hide hm
  clear hm h0 hn64
  go_enter Try.func19, Try.ntmps19
  have Ex : Hid ((w.alloc (.cells #[] 5)).ownsRow w.heap.size 5 1 (.slice (some ⟨w.heap.size, 0, none⟩) 0 0) 0 (bv [])) := World.ownsRow_lit w #[] 0 (Nat.le_refl _) (by simp [maxLen]) rfl
  have LEx : Hid (Below w.heap.size w (w.alloc (.cells #[] 5))) := (Below.refl _ _).alloc (Nat.le_refl _) _
  have Ax : Hid (Bs (w.alloc (.cells #[] 5)) (.slice ad m cap) (l.take m)) := (HB.out.cut7 m hmk).later LEx.out
  go_wp2_with (at_builtin; refine wpList_append_bs rfl (.tmp 7) (.tmp 13) rfl w.heap.size _ 0 [] rfl Ex.out _ (l.take m) rfl Ax.out (by simp; omega) (by simp) w LEx.out ?_)
  intro v3 w3 ho hb hg
  have V3 := hide (Bs.of_owns ho).1
  have L3 : Hid (Later w w3) := hb
  clear ho hb hg Ex LEx Ax
  go_wp2
  go_ret
  exact ⟨_, rfl, L3.out, by rw [HC.out]; exact V3.out⟩
end Go.Proofs.Ytcjdodkbnhkbiaa

namespace Go.Proofs.Ytcjdodkbnhkbiaa
open Go.ChangeShapes Go.WideShapes Go.ChangeAt Go.RowKit
set_option linter.unusedVariables false
set_option linter.unusedSimpArgs false

/-! The landed sense: lists of senses. -/
theorem slO_add {w w' : World} {v : Value} {L : List Sns} {s : Sns} (h : SlO w' w.heap.size v (addL L s)) (ho : ∀ x ∈ L, OkS x) (hs : OkS s) : Sl w' v (addL L s) ∧ ∀ g, g < w.heap.size → OffS g v :=
  ⟨h.sl (addL_ok ho hs), fun _ hg => owns_off h hg⟩
end Go.Proofs.Ytcjdodkbnhkbiaa

namespace Go.Proofs.Ytcjdodkbnhkbiaa
open Go.ChangeShapes Go.WideShapes Go.ChangeAt Go.RowKit
set_option linter.unusedVariables false
set_option linter.unusedSimpArgs false

/-! The landed sense: First, Parse. -/
theorem beqb_c {u v : Value} {l m : List UInt8} (w : World) (hu : Bs w u l) (hv : Bs w v m) :
    Calls Try.prog 32 #[u, v] w fun e w' => e = .returned (.bool (l == m)) ∧ w' = w := by
  have h1 := hu.strOf
  have h2 := hv.strOf
  clear hu hv
  go_enter Try.func32, Try.ntmps32
  go_wp2
  go_ret
  rw [strOf_list, strOf_list]
  exact ⟨rfl, rfl⟩

end Go.Proofs.Ytcjdodkbnhkbiaa

namespace Go.Proofs.Ytcjdodkbnhkbiaa
open Go.ChangeShapes Go.WideShapes Go.ChangeAt Go.RowKit
set_option linter.unusedVariables false
set_option linter.unusedSimpArgs false

/-! The landed mode: the pages. -/
/-- bytes of the call's own -/
def MkP (f : FuncId) (xs : Array Value) (n : Nat) (l : List UInt8) : Prop := ∀ w : World, Calls Try.prog f xs w fun e w' => ∃ g, e = .returned (.slice (some ⟨g, 0, none⟩) n n) ∧ Later w w' ∧ w.heap.size ≤ g ∧ Box w' g 5 (bv l)
theorem Try.info_u8s : (Try.prog.info? 5).map (·.size) = some 1 := by kernel_rfl
theorem emptyPage_8 : MkP 28 #[.int .u8 8, .int .u8 18] 20 (pg8 false) := by
  intro w
  have LL := hide (Later.refl w)
  go_enter Try.func28, Try.ntmps28
  go_wp2_with (refine wpList_makeB rfl (.tmp 8) (.tmp 8) rfl 20 rfl rfl (by decide) ?_)
  intro g w1 hB hl hg
  replace LL := hide (LL.out.trans hl)
  have BX := hide hB
  have HG : Hid (w.heap.size ≤ g) := by rw [Hid, hg.out]; exact Nat.le_refl _
  clear hl hg hB
  go_wp2_with (refine wpList_storeB rfl 5 (.tmp 14) (.tmp 12) rfl g 0 rfl 8 rfl Try.info_u8s 5 (List.replicate 20 0) BX.out (by simp) 8 rfl ?_)
  intro w2 hB h2
  have B2 := hide hB
  have L2 : Hid (Later w w2) := by rw [h2.out]; exact LL.out.setCells HG.out _ _
  clear hB h2 BX LL
  go_wp2_with (refine wpList_storeB rfl 5 (.tmp 15) (.tmp 13) rfl g 1 rfl 18 rfl Try.info_u8s 5 ((List.replicate 20 0).set 0 8) B2.out (by simp) 18 rfl ?_)
  intro w3 hB h3
  have B3 := hide hB
  have L3 : Hid (Later w w3) := by rw [h3.out]; exact L2.out.setCells HG.out _ _
  clear hB h3 B2 L2
  go_wp2
  go_ret
  exact ⟨g, rfl, L3.out, HG.out, B3.out⟩
theorem emptyPage_28 : MkP 28 #[.int .u8 28, .int .u8 10] 12 (pg28) := by
  intro w
  have LL := hide (Later.refl w)
  go_enter Try.func28, Try.ntmps28
  go_wp2_with (refine wpList_makeB rfl (.tmp 8) (.tmp 8) rfl 12 rfl rfl (by decide) ?_)
  intro g w1 hB hl hg
  replace LL := hide (LL.out.trans hl)
  have BX := hide hB
  have HG : Hid (w.heap.size ≤ g) := by rw [Hid, hg.out]; exact Nat.le_refl _
  clear hl hg hB
  go_wp2_with (refine wpList_storeB rfl 5 (.tmp 14) (.tmp 12) rfl g 0 rfl 28 rfl Try.info_u8s 5 (List.replicate 12 0) BX.out (by simp) 28 rfl ?_)
  intro w2 hB h2
  have B2 := hide hB
  have L2 : Hid (Later w w2) := by rw [h2.out]; exact LL.out.setCells HG.out _ _
  clear hB h2 BX LL
  go_wp2_with (refine wpList_storeB rfl 5 (.tmp 15) (.tmp 13) rfl g 1 rfl 10 rfl Try.info_u8s 5 ((List.replicate 12 0).set 0 28) B2.out (by simp) 10 rfl ?_)
  intro w3 hB h3
  have B3 := hide hB
  have L3 : Hid (Later w w3) := by rw [h3.out]; exact L2.out.setCells HG.out _ _
  clear hB h3 B2 L2
  go_wp2
  go_ret
  exact ⟨g, rfl, L3.out, HG.out, B3.out⟩
theorem excPage_c : MkP 22 #[] 12 pg28 := by
  intro w
  go_enter Try.func22, Try.ntmps22
  go_wp2_with fail
  refine (emptyPage_28 _).mono ?_
  rintro e w1 ⟨g, rfl, hl, hg, hB⟩
  have L := hide hl
  have G := hide hg
  have B := hide hB
  clear hl hg hB
  go_wp2
  go_ret
  exact ⟨g, rfl, L.out, G.out, B.out⟩
theorem cachingPage_c (on : Bool) : MkP 21 #[.bool on] 20 (pg8 on) := by
  intro w
  go_enter Try.func21, Try.ntmps21
  go_wp2_with fail
  refine (emptyPage_8 _).mono ?_
  rintro e w1 ⟨g, rfl, hl, hg, hB⟩
  have L := hide hl
  have G := hide hg
  have B := hide hB
  clear hl hg hB
  cases on with
  | false =>
    go_wp2
    go_ret
    exact ⟨g, rfl, L.out, G.out, B.out⟩
  | true =>
    go_wp2_with (refine wpList_storeB rfl 5 (.tmp 7) (.const (.int .u8 4)) rfl g 2 rfl 4 rfl Try.info_u8s 5 (pg8 false) B.out (by decide) 4 rfl ?_)
    intro w3 hB h3
    have B3 : Hid (Box w3 g 5 (bv (pg8 true))) := hB
    have L3 : Hid (Later w w3) := by rw [h3.out]; exact L.out.setCells G.out _ _
    clear hB h3 B L
    go_wp2
    go_ret
    exact ⟨g, rfl, L3.out, G.out, B3.out⟩
end Go.Proofs.Ytcjdodkbnhkbiaa

namespace Go.Proofs.Ytcjdodkbnhkbiaa
open Go.ChangeShapes Go.WideShapes Go.ChangeAt Go.RowKit
set_option linter.unusedVariables false
set_option linter.unusedSimpArgs false

/-! The landed mode: Page. -/
theorem mp8_a (which : Int) : MPag 11 8 which true := by
  intro w
  have HL : Hid (mpL 8 which true = pg8 true) := by simp [Hid, mpL, vB, vU]
  go_enter Try.func11, Try.ntmps11
  go_wp2_with fail
  refine (cachingPage_c true _).mono ?_
  rintro e w1 ⟨g, rfl, hl, hg, hB⟩
  have Lg := hide hl
  have Gg := hide hg
  have Bg := hide hB
  clear hl hg hB
  go_wp2
  go_ret2
  exact ⟨_, rfl, Lg.out, by rw [HL.out]; exact bs_of_box Bg.out rfl rfl (by decide)⟩
theorem mp28_a (which : Int) : MPag 11 28 which true := by
  intro w
  have HL : Hid (mpL 28 which true = pg28) := rfl
  go_enter Try.func11, Try.ntmps11
  go_wp2_with fail
  refine (excPage_c _).mono ?_
  rintro e w1 ⟨g, rfl, hl, hg, hB⟩
  have Lg := hide hl
  have Gg := hide hg
  have Bg := hide hB
  clear hl hg hB
  go_wp2
  go_ret2
  exact ⟨_, rfl, Lg.out, by rw [HL.out]; exact bs_of_box Bg.out rfl rfl (by decide)⟩
theorem mpx_a (which : Int) (page : Int) (h1 : page ≠ 8) (h2 : page ≠ 28) (h3 : page ≠ 63) : MPag 11 page which true := by
  intro w
  have HL : Hid (mpL page which true = []) := by simp [Hid, mpL, h1, h2, h3]
  have HB : Hid (mpB page = false) := by simp [Hid, mpB, h1, h2, h3]
  go_enter Try.func11, Try.ntmps11
  go_wp2
  go_ret2
  rw [HL.out, HB.out]
  exact ⟨_, rfl, Later.refl _, Bs.nil _⟩
theorem mp63_a (which : Int) : MPag 11 63 which true := by
  intro w
  have HL : Hid (mpL 63 which true = pg8 true ++ pg28) := by simp [Hid, mpL, vB, vU]
  go_enter Try.func11, Try.ntmps11
  go_wp2_with fail
  refine (cachingPage_c true _).mono ?_
  rintro e w1 ⟨g, rfl, hl, hg, hB⟩
  have Lg := hide hl
  have Gg := hide hg
  have Bg := hide hB
  clear hl hg hB
  go_wp2_with fail
  refine (excPage_c _).mono ?_
  rintro e w2 ⟨h, rfl, hl, hg, hB⟩
  have Lh := hide hl
  have Gh := hide hg
  have Bh := hide hB
  clear hl hg hB
  replace Bg := hide (Bg.out.later Lh.out)
  replace Lg := hide (Lg.out.trans Lh.out)
  go_wp2_with (at_builtin; refine wpList_append_bs rfl (.tmp 29) (.tmp 30) rfl w.heap.size _ 20 (pg8 true) rfl (owns_box Bg.out rfl (by decide) Gg.out) _ pg28 rfl (bs_of_box Bh.out rfl rfl (by decide)) (by decide) Lg.out.size w Lg.out ?_)
  intro v3 w3 ho hb hg
  have V3 := hide (Bs.of_owns ho).1
  have L3 : Hid (Later w w3) := hb
  clear ho hb hg
  go_wp2
  go_ret2
  exact ⟨_, rfl, L3.out, by rw [HL.out]; exact V3.out⟩
theorem mp8_b (w0 : World) : MPag 11 8 1 false := by
  intro w
  have HL : Hid (mpL 8 1 false = pg8 true) := by simp [Hid, mpL, vB, vU]
  go_enter Try.func11, Try.ntmps11
  go_wp2_with fail
  refine (cachingPage_c true _).mono ?_
  rintro e w1 ⟨g, rfl, hl, hg, hB⟩
  have Lg := hide hl
  have Gg := hide hg
  have Bg := hide hB
  clear hl hg hB
  go_wp2
  go_ret2
  exact ⟨_, rfl, Lg.out, by rw [HL.out]; exact bs_of_box Bg.out rfl rfl (by decide)⟩
theorem mp28_b (w0 : World) : MPag 11 28 1 false := by
  intro w
  have HL : Hid (mpL 28 1 false = pg28) := rfl
  go_enter Try.func11, Try.ntmps11
  go_wp2_with fail
  refine (excPage_c _).mono ?_
  rintro e w1 ⟨g, rfl, hl, hg, hB⟩
  have Lg := hide hl
  have Gg := hide hg
  have Bg := hide hB
  clear hl hg hB
  go_wp2
  go_ret2
  exact ⟨_, rfl, Lg.out, by rw [HL.out]; exact bs_of_box Bg.out rfl rfl (by decide)⟩
theorem mpx_b (w0 : World) (page : Int) (h1 : page ≠ 8) (h2 : page ≠ 28) (h3 : page ≠ 63) : MPag 11 page 1 false := by
  intro w
  have HL : Hid (mpL page 1 false = []) := by simp [Hid, mpL, h1, h2, h3]
  have HB : Hid (mpB page = false) := by simp [Hid, mpB, h1, h2, h3]
  go_enter Try.func11, Try.ntmps11
  go_wp2
  go_ret2
  rw [HL.out, HB.out]
  exact ⟨_, rfl, Later.refl _, Bs.nil _⟩
theorem mp63_b (w0 : World) : MPag 11 63 1 false := by
  intro w
  have HL : Hid (mpL 63 1 false = pg8 true ++ pg28) := by simp [Hid, mpL, vB, vU]
  go_enter Try.func11, Try.ntmps11
  go_wp2_with fail
  refine (cachingPage_c true _).mono ?_
  rintro e w1 ⟨g, rfl, hl, hg, hB⟩
  have Lg := hide hl
  have Gg := hide hg
  have Bg := hide hB
  clear hl hg hB
  go_wp2_with fail
  refine (excPage_c _).mono ?_
  rintro e w2 ⟨h, rfl, hl, hg, hB⟩
  have Lh := hide hl
  have Gh := hide hg
  have Bh := hide hB
  clear hl hg hB
  replace Bg := hide (Bg.out.later Lh.out)
  replace Lg := hide (Lg.out.trans Lh.out)
  go_wp2_with (at_builtin; refine wpList_append_bs rfl (.tmp 29) (.tmp 30) rfl w.heap.size _ 20 (pg8 true) rfl (owns_box Bg.out rfl (by decide) Gg.out) _ pg28 rfl (bs_of_box Bh.out rfl rfl (by decide)) (by decide) Lg.out.size w Lg.out ?_)
  intro v3 w3 ho hb hg
  have V3 := hide (Bs.of_owns ho).1
  have L3 : Hid (Later w w3) := hb
  clear ho hb hg
  go_wp2
  go_ret2
  exact ⟨_, rfl, L3.out, by rw [HL.out]; exact V3.out⟩
theorem mp8_c (w0 : World) : MPag 11 8 2 false := by
  intro w
  have HL : Hid (mpL 8 2 false = pg8 true) := by simp [Hid, mpL, vB, vU]
  go_enter Try.func11, Try.ntmps11
  go_wp2_with fail
  refine (cachingPage_c true _).mono ?_
  rintro e w1 ⟨g, rfl, hl, hg, hB⟩
  have Lg := hide hl
  have Gg := hide hg
  have Bg := hide hB
  clear hl hg hB
  go_wp2
  go_ret2
  exact ⟨_, rfl, Lg.out, by rw [HL.out]; exact bs_of_box Bg.out rfl rfl (by decide)⟩
theorem mp28_c (w0 : World) : MPag 11 28 2 false := by
  intro w
  have HL : Hid (mpL 28 2 false = pg28) := rfl
  go_enter Try.func11, Try.ntmps11
  go_wp2_with fail
  refine (excPage_c _).mono ?_
  rintro e w1 ⟨g, rfl, hl, hg, hB⟩
  have Lg := hide hl
  have Gg := hide hg
  have Bg := hide hB
  clear hl hg hB
  go_wp2
  go_ret2
  exact ⟨_, rfl, Lg.out, by rw [HL.out]; exact bs_of_box Bg.out rfl rfl (by decide)⟩
theorem mpx_c (w0 : World) (page : Int) (h1 : page ≠ 8) (h2 : page ≠ 28) (h3 : page ≠ 63) : MPag 11 page 2 false := by
  intro w
  have HL : Hid (mpL page 2 false = []) := by simp [Hid, mpL, h1, h2, h3]
  have HB : Hid (mpB page = false) := by simp [Hid, mpB, h1, h2, h3]
  go_enter Try.func11, Try.ntmps11
  go_wp2
  go_ret2
  rw [HL.out, HB.out]
  exact ⟨_, rfl, Later.refl _, Bs.nil _⟩
theorem mp63_c (w0 : World) : MPag 11 63 2 false := by
  intro w
  have HL : Hid (mpL 63 2 false = pg8 true ++ pg28) := by simp [Hid, mpL, vB, vU]
  go_enter Try.func11, Try.ntmps11
  go_wp2_with fail
  refine (cachingPage_c true _).mono ?_
  rintro e w1 ⟨g, rfl, hl, hg, hB⟩
  have Lg := hide hl
  have Gg := hide hg
  have Bg := hide hB
  clear hl hg hB
  go_wp2_with fail
  refine (excPage_c _).mono ?_
  rintro e w2 ⟨h, rfl, hl, hg, hB⟩
  have Lh := hide hl
  have Gh := hide hg
  have Bh := hide hB
  clear hl hg hB
  replace Bg := hide (Bg.out.later Lh.out)
  replace Lg := hide (Lg.out.trans Lh.out)
  go_wp2_with (at_builtin; refine wpList_append_bs rfl (.tmp 29) (.tmp 30) rfl w.heap.size _ 20 (pg8 true) rfl (owns_box Bg.out rfl (by decide) Gg.out) _ pg28 rfl (bs_of_box Bh.out rfl rfl (by decide)) (by decide) Lg.out.size w Lg.out ?_)
  intro v3 w3 ho hb hg
  have V3 := hide (Bs.of_owns ho).1
  have L3 : Hid (Later w w3) := hb
  clear ho hb hg
  go_wp2
  go_ret2
  exact ⟨_, rfl, L3.out, by rw [HL.out]; exact V3.out⟩
theorem mp8_d (which : Int) (hw1 : (which == 1) = false) (hw2 : (which == 2) = false) : MPag 11 8 which false := by
  intro w
  have HL : Hid (mpL 8 which false = pg8 false) := by simp [Hid, mpL, vB, hw1, hw2]
  go_enter Try.func11, Try.ntmps11
  go_wp2_with fail
  refine (cachingPage_c false _).mono ?_
  rintro e w1 ⟨g, rfl, hl, hg, hB⟩
  have Lg := hide hl
  have Gg := hide hg
  have Bg := hide hB
  clear hl hg hB
  go_wp2
  go_ret2
  exact ⟨_, rfl, Lg.out, by rw [HL.out]; exact bs_of_box Bg.out rfl rfl (by decide)⟩
theorem mp28_d (which : Int) (hw1 : (which == 1) = false) (hw2 : (which == 2) = false) : MPag 11 28 which false := by
  intro w
  have HL : Hid (mpL 28 which false = pg28) := rfl
  go_enter Try.func11, Try.ntmps11
  go_wp2_with fail
  refine (excPage_c _).mono ?_
  rintro e w1 ⟨g, rfl, hl, hg, hB⟩
  have Lg := hide hl
  have Gg := hide hg
  have Bg := hide hB
  clear hl hg hB
  go_wp2
  go_ret2
  exact ⟨_, rfl, Lg.out, by rw [HL.out]; exact bs_of_box Bg.out rfl rfl (by decide)⟩
theorem mpx_d (which : Int) (hw1 : (which == 1) = false) (hw2 : (which == 2) = false) (page : Int) (h1 : page ≠ 8) (h2 : page ≠ 28) (h3 : page ≠ 63) : MPag 11 page which false := by
  intro w
  have HL : Hid (mpL page which false = []) := by simp [Hid, mpL, h1, h2, h3]
  have HB : Hid (mpB page = false) := by simp [Hid, mpB, h1, h2, h3]
  go_enter Try.func11, Try.ntmps11
  go_wp2
  go_ret2
  rw [HL.out, HB.out]
  exact ⟨_, rfl, Later.refl _, Bs.nil _⟩
theorem mp63_d (which : Int) (hw1 : (which == 1) = false) (hw2 : (which == 2) = false) : MPag 11 63 which false := by
  intro w
  have HL : Hid (mpL 63 which false = pg8 false ++ pg28) := by simp [Hid, mpL, vB, hw1, hw2]
  go_enter Try.func11, Try.ntmps11
  go_wp2_with fail
  refine (cachingPage_c false _).mono ?_
  rintro e w1 ⟨g, rfl, hl, hg, hB⟩
  have Lg := hide hl
  have Gg := hide hg
  have Bg := hide hB
  clear hl hg hB
  go_wp2_with fail
  refine (excPage_c _).mono ?_
  rintro e w2 ⟨h, rfl, hl, hg, hB⟩
  have Lh := hide hl
  have Gh := hide hg
  have Bh := hide hB
  clear hl hg hB
  replace Bg := hide (Bg.out.later Lh.out)
  replace Lg := hide (Lg.out.trans Lh.out)
  go_wp2_with (at_builtin; refine wpList_append_bs rfl (.tmp 29) (.tmp 30) rfl w.heap.size _ 20 (pg8 false) rfl (owns_box Bg.out rfl (by decide) Gg.out) _ pg28 rfl (bs_of_box Bh.out rfl rfl (by decide)) (by decide) Lg.out.size w Lg.out ?_)
  intro v3 w3 ho hb hg
  have V3 := hide (Bs.of_owns ho).1
  have L3 : Hid (Later w w3) := hb
  clear ho hb hg
  go_wp2
  go_ret2
  exact ⟨_, rfl, L3.out, by rw [HL.out]; exact V3.out⟩
theorem mpage_c : IPage8 := by
  intro page which caching _ _ w
  by_cases h1 : page = 8
  · subst h1
    cases caching with
    | true => exact mp8_a which w
    | false =>
      by_cases hw1 : which = 1
      · subst hw1; exact mp8_b w w
      by_cases hw2 : which = 2
      · subst hw2; exact mp8_c w w
      exact mp8_d which (by simp [hw1]) (by simp [hw2]) w
  by_cases h2 : page = 28
  · subst h2
    cases caching with
    | true => exact mp28_a which w
    | false =>
      by_cases hw1 : which = 1
      · subst hw1; exact mp28_b w w
      by_cases hw2 : which = 2
      · subst hw2; exact mp28_c w w
      exact mp28_d which (by simp [hw1]) (by simp [hw2]) w
  by_cases h3 : page = 63
  · subst h3
    cases caching with
    | true => exact mp63_a which w
    | false =>
      by_cases hw1 : which = 1
      · subst hw1; exact mp63_b w w
      by_cases hw2 : which = 2
      · subst hw2; exact mp63_c w w
      exact mp63_d which (by simp [hw1]) (by simp [hw2]) w
  cases caching with
  | true => exact mpx_a which page h1 h2 h3 w
  | false =>
    by_cases hw1 : which = 1
    · subst hw1; exact mpx_b w page h1 h2 h3 w
    by_cases hw2 : which = 2
    · subst hw2; exact mpx_c w page h1 h2 h3 w
    exact mpx_d which (by simp [hw1]) (by simp [hw2]) page h1 h2 h3 w
end Go.Proofs.Ytcjdodkbnhkbiaa

namespace Go.Proofs.Ytcjdodkbnhkbiaa
open Go.ChangeShapes Go.WideShapes Go.ChangeAt Go.RowKit
set_option linter.unusedVariables false
set_option linter.unusedSimpArgs false

/-! The landed mode: an answer's header. -/
theorem headerSize_c (ten : Bool) (w : World) : Calls Try.prog 26 #[.bool ten] w fun e w' => e = .returned (.tuple #[.int .i64 (if ten then 8 else 4), .int .i64 (if ten then 2 else 1)]) ∧ w' = w := by
  cases ten with
  | true =>
    go_enter Try.func26, Try.ntmps26
    go_wp2
    go_ret2
    exact ⟨rfl, rfl⟩
  | false =>
    go_enter Try.func26, Try.ntmps26
    go_wp2
    go_ret2
    exact ⟨rfl, rfl⟩
theorem pb8_2 : ∀ k : Nat, k < 33 → putBeI (6 + k) 2 = [0, UInt8.ofNat (k + 6)] := by decide
theorem pb8_1 : ∀ k : Nat, k < 33 → putBeI (3 + k) 1 = [UInt8.ofNat (k + 3)] := by decide
/-- bytes that are copied to the beginning of bytes of the call's own -/
theorem wpList_copyB {w : World} {ops : Array Oper} {rest : List Oper} {o : Oper} {a : Act} {Q : Exit → Act → World → Prop} (hgd : o.guard = none) (d s : Operand) (ho : o.op = .call { callee := .builtin .copy, args := #[d, s], argTypes := #[26, 26] })
    (g n : Nat) (hd : a.eval d = .slice (some ⟨g, 0, none⟩) n n) (u : Value) (N : List UInt8) (hx : a.eval s = u) (hr : Rw 1 w u N.length (bv N)) (hm : N.length ≤ n) (L : List UInt8) (hB : Box w g 5 (bv L)) (hL : L.length = n) (hn : n ≤ 100)
    (h : ∀ w', Box w' g 5 (bv (N ++ L.drop N.length)) → Hid (w' = w.setCells g 0 (bv N)) → wpList Try.prog ops Q rest (a.put o.dst (.int .i64 (N.length : Int))) w') : wpList Try.prog ops Q (o :: rest) a w := by
  refine wpList_plain hgd fun K hK => ?_
  have hrun := run_copy_rw (P := Try.prog) (w := w) (ty := o.type) (T' := 26) Try.underlying26 Try.info1_u8 (some ⟨g, 0, none⟩) n n hr (bv_one N) hm (owns_of_box hB hL hn) (off := 0) (by omega) (.inr rfl)
  have hb := hB.setCells (bv N) 0 (by simp [bv_length]; omega)
  have e : (bv L).take 0 ++ bv N ++ (bv L).drop (0 + (bv N).length) = bv (N ++ L.drop N.length) := by simp [bv_append, bv_length, bv, List.map_drop]
  rw [e] at hb
  unfold Go.Oper.wp
  simp [execOp, ho, resolve, invoke, builtin, hd, hx, hrun, Result.andThen]
  exact hK _ _ (h _ hb rfl)
set_option maxHeartbeats 1000000 in
theorem header_true_true (k : Nat) (hk : k ≤ 32) : MkP 18 #[.bool true, .int .i64 k, .bool true] 8 (mhead 90 k true) := by
  intro w
  have LL := hide (Later.refl w)
  go_enter Try.func18, Try.ntmps18
  go_wp2_with fail
  refine (headerSize_c true _).mono ?_
  rintro e w1 ⟨rfl, hw⟩
  have hw2 := hw.symm
  subst hw2
  clear hw
  go_wp2_with (refine wpList_makeB rfl (.tmp 15) (.tmp 15) rfl 8 rfl rfl (by decide) ?_)
  intro g w1 hB hl hg
  replace LL := hide (LL.out.trans hl)
  have BX := hide hB
  have HG : Hid (w.heap.size ≤ g) := by rw [Hid, hg.out]; exact Nat.le_refl _
  clear hl hg hB
  go_wp2_with fail
  have hq := putBig_c (6 + k) 2 w1 w1.heap.size (Nat.le_refl _) (by omega)
  rw [pb8_2 k (by omega), show ((6 + k : Nat) : Int) = 6 + (k : Int) from by omega] at hq
  obtain ⟨x, hx⟩ : ∃ x : UInt8, x = UInt8.ofNat (k + 6) := ⟨_, rfl⟩
  rw [← hx] at hq
  have HX := hide hx
  clear hx
  refine hq.mono ?_
  clear hq
  rintro e w2 ⟨v2, rfl, hl, ho⟩
  have L2 : Later w1 w2 := hl
  replace LL := hide (LL.out.trans L2)
  replace BX := hide (BX.out.later L2)
  have R2 := hide (Rw.of_owns ho)
  clear hl ho L2
  go_wp2_with (refine wpList_copyB rfl (.tmp 17) (.tmp 25) rfl g 8 rfl v2 ([0, x]) rfl R2.out (by simp) (List.replicate 8 0) BX.out (by simp) (by decide) ?_)
  intro w3 hB h3
  have B3 := hide hB
  have L3 : Hid (Later w w3) := by rw [h3.out]; exact LL.out.setCells HG.out _ _
  clear hB h3 LL BX R2
  go_wp2_with (refine wpList_storeB rfl 5 (.tmp 31) (.const (.int .u8 128)) rfl g (2 + 1) rfl 128 rfl Try.info_u8s 5 ([0, x] ++ (List.replicate 8 0).drop 2) B3.out (by simp) 128 rfl ?_)
  intro w4 hB h4
  have B4 : Hid (Box w4 g 5 (bv (mhead 90 k true))) := by
    have e : mhead 90 k true = ([0, x] ++ (List.replicate 8 0).drop 2).set (2 + 1) 128 := by rw [HX.out]; rfl
    rw [Hid, e]; exact hB
  have L4 : Hid (Later w w4) := by rw [h4.out]; exact L3.out.setCells HG.out _ _
  clear hB h4 B3 L3
  go_wp2
  go_ret
  exact ⟨g, rfl, L4.out, HG.out, B4.out⟩
set_option maxHeartbeats 1000000 in
theorem header_true_false (k : Nat) (hk : k ≤ 32) : MkP 18 #[.bool true, .int .i64 k, .bool false] 8 (mhead 90 k false) := by
  intro w
  have LL := hide (Later.refl w)
  go_enter Try.func18, Try.ntmps18
  go_wp2_with fail
  refine (headerSize_c true _).mono ?_
  rintro e w1 ⟨rfl, hw⟩
  have hw2 := hw.symm
  subst hw2
  clear hw
  go_wp2_with (refine wpList_makeB rfl (.tmp 15) (.tmp 15) rfl 8 rfl rfl (by decide) ?_)
  intro g w1 hB hl hg
  replace LL := hide (LL.out.trans hl)
  have BX := hide hB
  have HG : Hid (w.heap.size ≤ g) := by rw [Hid, hg.out]; exact Nat.le_refl _
  clear hl hg hB
  go_wp2_with fail
  have hq := putBig_c (6 + k) 2 w1 w1.heap.size (Nat.le_refl _) (by omega)
  rw [pb8_2 k (by omega), show ((6 + k : Nat) : Int) = 6 + (k : Int) from by omega] at hq
  obtain ⟨x, hx⟩ : ∃ x : UInt8, x = UInt8.ofNat (k + 6) := ⟨_, rfl⟩
  rw [← hx] at hq
  have HX := hide hx
  clear hx
  refine hq.mono ?_
  clear hq
  rintro e w2 ⟨v2, rfl, hl, ho⟩
  have L2 : Later w1 w2 := hl
  replace LL := hide (LL.out.trans L2)
  replace BX := hide (BX.out.later L2)
  have R2 := hide (Rw.of_owns ho)
  clear hl ho L2
  go_wp2_with (refine wpList_copyB rfl (.tmp 17) (.tmp 25) rfl g 8 rfl v2 ([0, x]) rfl R2.out (by simp) (List.replicate 8 0) BX.out (by simp) (by decide) ?_)
  intro w3 hB h3
  have B3 := hide hB
  have L3 : Hid (Later w w3) := by rw [h3.out]; exact LL.out.setCells HG.out _ _
  clear hB h3 LL BX R2
  have B4 : Hid (Box w3 g 5 (bv (mhead 90 k false))) := by
    have e : mhead 90 k false = [0, x] ++ (List.replicate 8 0).drop 2 := by rw [HX.out]; rfl
    rw [Hid, e]; exact B3.out
  clear B3
  go_wp2
  go_ret
  exact ⟨g, rfl, L3.out, HG.out, B4.out⟩
set_option maxHeartbeats 1000000 in
theorem header_false_true (k : Nat) (hk : k ≤ 32) : MkP 18 #[.bool false, .int .i64 k, .bool true] 4 (mhead 26 k true) := by
  intro w
  have LL := hide (Later.refl w)
  go_enter Try.func18, Try.ntmps18
  go_wp2_with fail
  refine (headerSize_c false _).mono ?_
  rintro e w1 ⟨rfl, hw⟩
  have hw2 := hw.symm
  subst hw2
  clear hw
  go_wp2_with (refine wpList_makeB rfl (.tmp 15) (.tmp 15) rfl 4 rfl rfl (by decide) ?_)
  intro g w1 hB hl hg
  replace LL := hide (LL.out.trans hl)
  have BX := hide hB
  have HG : Hid (w.heap.size ≤ g) := by rw [Hid, hg.out]; exact Nat.le_refl _
  clear hl hg hB
  go_wp2_with fail
  have hq := putBig_c (3 + k) 1 w1 w1.heap.size (Nat.le_refl _) (by omega)
  rw [pb8_1 k (by omega), show ((3 + k : Nat) : Int) = 3 + (k : Int) from by omega] at hq
  obtain ⟨x, hx⟩ : ∃ x : UInt8, x = UInt8.ofNat (k + 3) := ⟨_, rfl⟩
  rw [← hx] at hq
  have HX := hide hx
  clear hx
  refine hq.mono ?_
  clear hq
  rintro e w2 ⟨v2, rfl, hl, ho⟩
  have L2 : Later w1 w2 := hl
  replace LL := hide (LL.out.trans L2)
  replace BX := hide (BX.out.later L2)
  have R2 := hide (Rw.of_owns ho)
  clear hl ho L2
  go_wp2_with (refine wpList_copyB rfl (.tmp 17) (.tmp 25) rfl g 4 rfl v2 ([x]) rfl R2.out (by simp) (List.replicate 4 0) BX.out (by simp) (by decide) ?_)
  intro w3 hB h3
  have B3 := hide hB
  have L3 : Hid (Later w w3) := by rw [h3.out]; exact LL.out.setCells HG.out _ _
  clear hB h3 LL BX R2
  go_wp2_with (refine wpList_storeB rfl 5 (.tmp 31) (.const (.int .u8 128)) rfl g (1 + 1) rfl 128 rfl Try.info_u8s 5 ([x] ++ (List.replicate 4 0).drop 1) B3.out (by simp) 128 rfl ?_)
  intro w4 hB h4
  have B4 : Hid (Box w4 g 5 (bv (mhead 26 k true))) := by
    have e : mhead 26 k true = ([x] ++ (List.replicate 4 0).drop 1).set (1 + 1) 128 := by rw [HX.out]; rfl
    rw [Hid, e]; exact hB
  have L4 : Hid (Later w w4) := by rw [h4.out]; exact L3.out.setCells HG.out _ _
  clear hB h4 B3 L3
  go_wp2
  go_ret
  exact ⟨g, rfl, L4.out, HG.out, B4.out⟩
set_option maxHeartbeats 1000000 in
theorem header_false_false (k : Nat) (hk : k ≤ 32) : MkP 18 #[.bool false, .int .i64 k, .bool false] 4 (mhead 26 k false) := by
  intro w
  have LL := hide (Later.refl w)
  go_enter Try.func18, Try.ntmps18
  go_wp2_with fail
  refine (headerSize_c false _).mono ?_
  rintro e w1 ⟨rfl, hw⟩
  have hw2 := hw.symm
  subst hw2
  clear hw
  go_wp2_with (refine wpList_makeB rfl (.tmp 15) (.tmp 15) rfl 4 rfl rfl (by decide) ?_)
  intro g w1 hB hl hg
  replace LL := hide (LL.out.trans hl)
  have BX := hide hB
  have HG : Hid (w.heap.size ≤ g) := by rw [Hid, hg.out]; exact Nat.le_refl _
  clear hl hg hB
  go_wp2_with fail
  have hq := putBig_c (3 + k) 1 w1 w1.heap.size (Nat.le_refl _) (by omega)
  rw [pb8_1 k (by omega), show ((3 + k : Nat) : Int) = 3 + (k : Int) from by omega] at hq
  obtain ⟨x, hx⟩ : ∃ x : UInt8, x = UInt8.ofNat (k + 3) := ⟨_, rfl⟩
  rw [← hx] at hq
  have HX := hide hx
  clear hx
  refine hq.mono ?_
  clear hq
  rintro e w2 ⟨v2, rfl, hl, ho⟩
  have L2 : Later w1 w2 := hl
  replace LL := hide (LL.out.trans L2)
  replace BX := hide (BX.out.later L2)
  have R2 := hide (Rw.of_owns ho)
  clear hl ho L2
  go_wp2_with (refine wpList_copyB rfl (.tmp 17) (.tmp 25) rfl g 4 rfl v2 ([x]) rfl R2.out (by simp) (List.replicate 4 0) BX.out (by simp) (by decide) ?_)
  intro w3 hB h3
  have B3 := hide hB
  have L3 : Hid (Later w w3) := by rw [h3.out]; exact LL.out.setCells HG.out _ _
  clear hB h3 LL BX R2
  have B4 : Hid (Box w3 g 5 (bv (mhead 26 k false))) := by
    have e : mhead 26 k false = [x] ++ (List.replicate 4 0).drop 1 := by rw [HX.out]; rfl
    rw [Hid, e]; exact B3.out
  clear B3
  go_wp2
  go_ret
  exact ⟨g, rfl, L3.out, HG.out, B4.out⟩
end Go.Proofs.Ytcjdodkbnhkbiaa
