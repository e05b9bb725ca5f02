import Derived.Laws.Runes
import Derived.Deep.AppendSrc
import Derived.Test.YtoflkbilkkfekaaMAI
import Derived.Test.YtoflkbilkkfekaaMAK
import Derived.Test.YtoflkbilkkfekaaMAH
namespace Go.Proofs.Ytoflkbilkkfekaa
open Go.ChangeShapes Go.WideShapes Go.ChangeAt Go.RowKit
set_option linter.unusedVariables false
set_option linter.unusedSimpArgs false

/-! Two commands held against one another. -/
theorem map_five {α β : Type} {f : α → β} {l : List α} {x y z u v : β} (h : l.map f = [x, y, z, u, v]) : ∃ a b c d e, l = [a, b, c, d, e] ∧ f a = x ∧ f b = y ∧ f c = z ∧ f d = u ∧ f e = v := by
  match l, h with
  | [a, b, c, d, e], h => simp at h; exact ⟨a, b, c, d, e, rfl, h.1, h.2.1, h.2.2.1, h.2.2.2.1, h.2.2.2.2⟩
  | [_], h => simp at h
  | [_, _], h => simp at h
  | [_, _, _], h => simp at h
  | [_, _, _, _], h => simp at h
  | _ :: _ :: _ :: _ :: _ :: _ :: _, h => simp at h
theorem eqFields_cons {P : Program} (w : World) (d : Nat) (xs ys : Array Value) (f : Field) (fs : List Field) (hf : f.name ≠ "_") (a b : Value) (r r' : Bool)
    (p1 : (part f.type xs f.offset).run P w = .ok a w) (p2 : (part f.type ys f.offset).run P w = .ok b w) (p3 : (Op.equalIn d f.type a b).run P w = .ok r w)
    (ih : (Op.eqFields d xs ys fs).run P w = .ok r' w) : (Op.eqFields d xs ys (f :: fs)).run P w = .ok (r && r') w := by
  simp only [Op.eqFields, hf, ne_eq, not_false_eq_true, if_true, Sem.run_bind, p1, p2, p3, Result.andThen_ok]
  cases r <;> simp [ih]
theorem eqFields_nil {P : Program} (w : World) (d : Nat) (xs ys : Array Value) : (Op.eqFields d xs ys []).run P w = .ok true w := by simp [Op.eqFields]
theorem part_cellU {P : Program} {t : TypeId} {k : IntKind} (w : World) (ht : P.underlying t = some (.int k)) (cs : Array Value) (o : Nat) (v : Value) (h : cs[o]? = some v) : (part t cs o).run P w = .ok v w := by
  simp [part, isAgg, run_underlying ht, h]
theorem cmd_beq (s t : Cmd) : (s == t) = (decide (s.1 = t.1) && (decide ((s.2.1 : Int) = (t.2.1 : Int)) && (decide (s.2.2.1 = t.2.2.1) && (decide (s.2.2.2.1 = t.2.2.2.1) && (decide (s.2.2.2.2 = t.2.2.2.2) && true))))) := by
  obtain ⟨a, b, c, d, e⟩ := s
  obtain ⟨a', b', c', d', e'⟩ := t
  rw [Bool.eq_iff_iff]
  simp
  intros
  omega
end Go.Proofs.Ytoflkbilkkfekaa

namespace Go.Proofs.Ytoflkbilkkfekaa
open Go.ChangeShapes Go.WideShapes Go.ChangeAt Go.RowKit
set_option linter.unusedVariables false
set_option linter.unusedSimpArgs false

/-! Answer: to a command. -/
/-- a call that makes memory, where it alone may come up -/
theorem wpJ_callL {P : Program} {ops : Array Oper} {I : World → Prop} (hI : ∀ w w', Later w w' → I w → I w') {Q : Act → World → Prop} {i : Nat} {o : Oper} {σ : List (Nat × Bool)} {a : Act} {b : World} (ho : ops[i]? = some o) (hw : Region.wanted o (yielded ops a.tmps) = true) (f : FuncId) (hp : Plain P f) (xs : List Operand) (ts : Array TypeId) (hop : o.op = .call { callee := .value (.func f), args := xs.toArray, argTypes := ts }) (us : List Value) (hx : xs.map a.eval = us)
    (R : Value → World → Prop) (hb : I b) (hc : ∀ w, Later b w → Calls P f us.toArray w fun e w' => ∃ v, e = .returned v ∧ Later w w' ∧ R v w')
    (h : ∀ v b', Later b b' → R v b' → wpJ P ops I Q σ (a.put o.dst v) b') : wpJ P ops I Q ((i, true) :: σ) a b := by
  intro w hl
  unfold jOp
  simp only [ho]
  rw [if_pos hw, run_call f hp xs ts hop us hx]
  exact ⟨rfl, (hc w hl).mono fun e w' ⟨v, e1, l1, r1⟩ => ⟨v, e1, hI _ _ (hl.trans l1) hb, h v w' (hl.trans l1) r1⟩⟩
def thereB (lun luns : Int) : Bool := decide (0 ≤ lun) && decide (lun < luns)
def ansR (c : Cmd) (lun luns : Int) : List UInt8 × Sns :=
  if c.1 ≠ 18 then ([], (5, 36, 0))
  else if c.2.2.2.2 ≠ 1 then (cutL (stdL (thereB lun luns)) c.2.2.1, (0, 0, 0))
  else (cutL (pageL c.2.2.2.1 lun (thereB lun luns)) c.2.2.1, pageS c.2.2.2.1)
theorem stdL_len (there : Bool) : (stdL there).length = 36 := rfl
end Go.Proofs.Ytoflkbilkkfekaa

namespace Go.Proofs.Ytoflkbilkkfekaa
open Go.ChangeShapes Go.WideShapes Go.ChangeAt Go.RowKit
set_option linter.unusedVariables false
set_option linter.unusedSimpArgs false

/-! What is asked of the landed inquiry. -/
abbrev In64 (x : Int) : Prop := -9223372036854775808 ≤ x ∧ x ≤ 9223372036854775807
def OkC7 (c : Cmd) : Prop := In64 c.1 ∧ c.2.1 ≤ 18446744073709551615 ∧ In64 c.2.2.1 ∧ In64 c.2.2.2.1 ∧ In64 c.2.2.2.2
def ICut7 : Prop := ∀ (v : Value) (l : List UInt8) (n : Int) (w : World), Bs w v l → l.length ≤ 1000000 → In64 n → Calls Try.prog 16 #[v, .int .i64 n] w fun e w' => ∃ v, e = .returned v ∧ Later w w' ∧ Bs w' v (cutL l n)
end Go.Proofs.Ytoflkbilkkfekaa

namespace Go.Proofs.Ytoflkbilkkfekaa
open Go.ChangeShapes Go.WideShapes Go.ChangeAt Go.RowKit
set_option linter.unusedVariables false
set_option linter.unusedSimpArgs false

/-! 'append(a, s...)', a our own, s a text. -/
theorem byteCells_str (m : List UInt8) : byteCells (strOf m) = bv m := by simp [byteCells, strOf, bv]
theorem strOf_size (m : List UInt8) : (strOf m).size = m.length := by simp [strOf, ByteArray.size]
set_option maxHeartbeats 1000000 in
theorem run_append_text {w : World} {B g n cap : Nat} {l : List UInt8} (ty : TypeId) (m : List UInt8) (hown : w.ownsRow B 5 1 (.slice (some ⟨g, 0, none⟩) n cap) n (bv l)) (hn : n + m.length ≤ 1000000) (hbase : B ≤ w.heap.size) :
    ∃ v' w', (Builtin.append_ #[23, 9] ty #[.slice (some ⟨g, 0, none⟩) n cap, .string (strOf m)]).run Try.prog w = .ok v' w' ∧ w'.ownsRow B 5 1 v' (n + m.length) (bv (l ++ m)) ∧ w.grownBy w' (some g) := by
  obtain ⟨i0, hi, hz0, hz1, hz2⟩ := info_parts Try.info_u8
  have hsrc : Src Try.prog i0.size 9 (.string (strOf m)) m.length (bv m) w := by
    have := Src.ofString (P := Try.prog) w (tx := 9) Try.underlying9 (strOf m)
    rw [strOf_size, byteCells_str] at this
    rw [hz1]
    exact this
  obtain ⟨hlen, h | ⟨g', cap', cur, e, hbg, hg, hnc, hcm, hcs, htake⟩⟩ := hown
  · obtain ⟨h, _⟩ := h; cases h
  simp at e
  obtain ⟨rfl, rfl⟩ := e
  rw [Nat.mul_one] at hlen hcs htake
  have hL : (bv (l ++ m)).length = n + m.length := by rw [bv_append, List.length_append, hlen, bv_length]
  have hB : Box w g 5 cur.toList := by unfold Box; rw [hg]
  by_cases hroom : n + m.length ≤ cap
  · have hrun := run_append_room_src (P := Try.prog) w 23 9 ty 5 i0 Try.underlying23 hi g 0 n cap (.string (strOf m)) m.length (bv m) hsrc hroom (fun j hj => by rw [hz1, hB.cell]; rw [bv_length] at hj; simp; omega) (fun j hj => hB.frozen _)
    rw [hz1, Nat.mul_one, Nat.zero_add] at hrun
    have hB2 := hB.setCells (bv m) n (by rw [bv_length]; simp; omega)
    refine ⟨.slice (some ⟨g, 0, none⟩) (n + m.length) cap, w.setCells g n (bv m), hrun, ?_, ?_⟩
    · refine ⟨by rw [hL, Nat.mul_one], .inr ⟨g, cap, _, rfl, hbg, hB2, hroom, hcm, ?_, ?_⟩⟩
      · simp [bv_length]; omega
      · rw [Nat.mul_one, htake, ← bv_append, ← hL]
        exact List.take_left
    · have hlt := hB.lt
      exact ⟨(below_setCells (Below.refl g w) (Nat.le_refl _) _ _).os, (below_setCells (Below.refl g w) (Nat.le_refl _) _ _).tape, (below_setCells (Below.refl g w) (Nat.le_refl _) _ _).output, (below_setCells (Below.refl g w) (Nat.le_refl _) _ _).size, fun k hk hne => heap_setCells_other w g k (fun e => hne (by rw [e])) _ _⟩
  · have hfit : Builtin.nextslicecap (n + m.length) cap * i0.bytes ≤ 281474976710656 := by
      rw [hz2]
      have := growslice_fits (need := n + m.length) (old := cap) (bytes := 1) (by omega) (by omega)
      omega
    have holds : (Builtin.firstCells i0.size n (.slice (some ⟨g, 0, none⟩) n cap)).run Try.prog w.drew = .ok (bv l).toArray w.drew := by
      rw [hz1]
      refine run_firstCells_some w.drew 1 n ⟨g, 0, none⟩ n cap (bv l) (by rw [hlen]; omega) ?_
      intro j u hu
      have hj : j < n := by rw [← hlen]; exact (List.getElem?_eq_some_iff.1 hu).1
      have hB : Box w.drew g 5 cur.toList := by unfold Box; exact hg
      rw [show (⟨g, 0, none⟩ : Addr).add j = ⟨g, j, none⟩ from by unfold Addr.add; split <;> simp_all, hB.cell j, ← hu, ← htake, List.getElem?_take_of_lt hj]
    have hrun := run_append_grow_src (P := Try.prog) w 23 9 ty 5 i0 (.int .u8 0) Try.underlying23 hi hz0 (some ⟨g, 0, none⟩) n cap (bv l) holds (.string (strOf m)) m.length (bv m) hsrc (by omega) (by omega) hfit
    have hge := grownCap_ge w (n + m.length) cap 5
    have hcm2 : grownCap w (n + m.length) cap 5 ≤ maxLen := grownCap_le_maxLen w (n + m.length) cap 5 (by unfold maxLen; omega)
    refine ⟨_, _, hrun, ?_, ?_⟩
    · refine ⟨by rw [hL, Nat.mul_one], .inr ⟨w.heap.size, _, _, rfl, hbase, heap_alloc_new w.drew _, hge, hcm2, ?_, ?_⟩⟩
      · simp only [Array.size_append, List.size_toArray, size_zeroCells, List.length_append, hlen, bv_length]
        simp [Value.cells]
        omega
      · simp only [Array.toList_append, List.toList_toArray]
        rw [Nat.mul_one, ← bv_append, ← hL]
        exact List.take_left
    · exact ⟨rfl, rfl, rfl, by simp, fun k hk _ => heap_alloc_old w.drew _ hk⟩
theorem owns_slice {w : World} {B n : Nat} {v : Value} {l : List UInt8} (hown : w.ownsRow B 5 1 v n (bv l)) (hp : 0 < n) : ∃ g cap, v = .slice (some ⟨g, 0, none⟩) n cap := by
  obtain ⟨_, h | ⟨g, cap, cur, e, _⟩⟩ := hown
  · obtain ⟨_, h⟩ := h; omega
  · exact ⟨g, cap, e⟩
theorem wpList_append_text {w : World} {ops : Array Oper} {rest : List Oper} {o : Oper} {a : Act} {Q : Exit → Act → World → Prop} (hgd : o.guard = none) (s x : Operand) (ho : o.op = .call { callee := .builtin .append, args := #[s, x], argTypes := #[23, 9] }) (B n : Nat) (v : Value) (l m : List UInt8) (hs : a.eval s = v) (hx : a.eval x = .string (strOf m)) (hown : w.ownsRow B 5 1 v n (bv l)) (hp : 0 < n) (hn : n + m.length ≤ 1000000) (hbase : B ≤ w.heap.size) (w0 : World) (hb : Below B w0 w)
    (h : ∀ v' w', w'.ownsRow B 5 1 v' (n + m.length) (bv (l ++ m)) → Below B w0 w' → wpList Try.prog ops Q rest (a.put o.dst v') w') : wpList Try.prog ops Q (o :: rest) a w := by
  obtain ⟨g, cap, rfl⟩ := owns_slice hown hp
  refine wpList_plain hgd fun K hK => ?_
  obtain ⟨v', w', hrun, h1, h2⟩ := run_append_text o.type m hown hn hbase
  have hbg : B ≤ g := (hown.lt g rfl).1
  unfold Go.Oper.wp execOp
  simp only [ho, resolve, invoke, builtin, Sem.run_bind, Sem.run_pure, Result.andThen_ok, List.map_toArray, List.map_cons, List.map_nil, hs, hx, hrun]
  exact hK _ _ (h v' w' h1 (hb.grown h2 hbase fun k hk => by cases hk; exact hbg))

/-! The landed inquiry: first, Serial, Standard. -/
end Go.Proofs.Ytoflkbilkkfekaa

namespace Go.Proofs.Ytoflkbilkkfekaa
open Go.ChangeShapes Go.WideShapes Go.ChangeAt Go.RowKit
set_option linter.unusedVariables false
set_option linter.unusedSimpArgs false

theorem i64_and7 (n : Int) : bits .and .i64 n 7 = n % 8 := by
  have h7 : (BitVec.ofInt 64 7).toNat = 2 ^ 3 - 1 := by decide
  have key : (BitVec.ofInt 64 n &&& BitVec.ofInt 64 7).toNat = (n % ((2 ^ 64 : Nat) : Int)).toNat % 2 ^ 3 := by
    rw [BitVec.toNat_and, BitVec.toNat_ofInt, h7, Nat.and_two_pow_sub_one_eq_mod]
  show IntKind.i64.wrap ((BitVec.ofInt 64 n &&& BitVec.ofInt 64 7).toNat : Nat) = n % 8
  rw [key, IntKind.wrap_i64]
  omega
end Go.Proofs.Ytoflkbilkkfekaa

namespace Go.Proofs.Ytoflkbilkkfekaa
open Go.ChangeShapes Go.WideShapes Go.ChangeAt Go.RowKit
set_option linter.unusedVariables false
set_option linter.unusedSimpArgs false

/-! The landed inquiry: Cut. -/
set_option maxHeartbeats 1000000 in
theorem cut7_c : ICut7 := by
  intro v l n w h hs hn64
  have HB := hide h
  obtain ⟨hlm, ad, cap, rfl, hcap, _⟩ := h
  clear hlm
  obtain ⟨k, hk⟩ : ∃ k, k = l.length := ⟨_, rfl⟩
  rw [← hk] at HB hcap hs ⊢
  have HK := hide hk
  clear hk
  by_cases h0 : n < 0
  · have HC : Hid (cutL l n = []) := by rw [Hid, cutL, if_pos h0]
    clear hn64
    go_enter Try.func16, Try.ntmps16
    go_wp2
    go_ret
    exact ⟨_, rfl, Later.refl _, by rw [HC.out]; exact Bs.nil _⟩
  have hb0 : decide (n < 0) = false := by simp; omega
  obtain ⟨m, hm⟩ : ∃ m : Nat, m = min n.toNat k := ⟨_, rfl⟩
  have hmin : (if (k : Int) < n then (k : Int) else n) = (m : Int) := by split <;> omega
  have hmk : m ≤ k := by omega
  have HC : Hid (cutL l n = l.take m) := by
    rw [Hid, cutL, if_neg h0]
    by_cases hh : n.toNat ≤ k
    · rw [show m = n.toNat by omega]
    · rw [List.take_of_length_le (by have := HK.out; omega), List.take_of_length_le (by have := HK.out; omega)]
  have s1 : (m : Int) ≤ (cap : Int) := by omega
  have HM := hide hm
  clear hm h0 hn64
  go_enter Try.func16, Try.ntmps16
  have Ex : Hid ((w.alloc (.cells #[] 5)).ownsRow w.heap.size 5 1 (.slice (some ⟨w.heap.size, 0, none⟩) 0 0) 0 (bv [])) := World.ownsRow_lit w #[] 0 (Nat.le_refl _) (by simp [maxLen]) rfl
  have LEx : Hid (Below w.heap.size w (w.alloc (.cells #[] 5))) := (Below.refl _ _).alloc (Nat.le_refl _) _
  have Ax : Hid (Bs (w.alloc (.cells #[] 5)) (.slice ad m cap) (l.take m)) := (HB.out.cut7 m hmk).later LEx.out
  go_wp2_with (at_builtin; refine wpList_append_bs rfl (.tmp 7) (.tmp 13) rfl w.heap.size _ 0 [] rfl Ex.out _ (l.take m) rfl Ax.out (by simp; omega) (by simp) w LEx.out ?_)
  intro v3 w3 ho hb hg
  have V3 := hide (Bs.of_owns ho).1
  have L3 : Hid (Later w w3) := hb
  clear ho hb hg Ex LEx Ax
  go_wp2
  go_ret
  exact ⟨_, rfl, L3.out, by rw [HC.out]; exact V3.out⟩
end Go.Proofs.Ytoflkbilkkfekaa

namespace Go.Proofs.Ytoflkbilkkfekaa
open Go.ChangeShapes Go.WideShapes Go.ChangeAt Go.RowKit
set_option linter.unusedVariables false
set_option linter.unusedSimpArgs false

/-! The document's capacity: Ten, Sixteen. -/
def lastN (b : Int) : Nat := ((b - 1) % 18446744073709551616).toNat
theorem lastN_eq (b : Int) : IntKind.u64.wrap (IntKind.u64.wrap b - 1) = (lastN b : Int) := by
  rw [IntKind.wrap_u64, IntKind.wrap_u64]; unfold lastN; omega
theorem lastN_le (b : Int) : lastN b ≤ 18446744073709551615 := by unfold lastN; omega
def sz64 : List UInt8 := [0, 0, 0, 64]
def tenL (b : Int) : List UInt8 := putBeI (lastN b) 4 ++ sz64
def sixL (b : Int) : List UInt8 := putBeI (lastN b) 8 ++ (sz64 ++ zs 20)
theorem putBeI4_len (x : Nat) : (putBeI x 4).length = 4 := by rw [putBeI, if_pos (by decide), putBe_length]; rfl
theorem putBeI8_len (x : Nat) : (putBeI x 8).length = 8 := by rw [putBeI, if_pos (by decide), putBe_length]; rfl
theorem tenL_len (b : Int) : (tenL b).length = 8 := by rw [tenL, List.length_append, putBeI4_len]; rfl
theorem sixL_len (b : Int) : (sixL b).length = 32 := by rw [sixL, List.length_append, List.length_append, putBeI8_len, zs_len]; rfl
theorem bs_sz64 (w : World) : Bs (w.alloc (.cells #[.int .u8 0, .int .u8 0, .int .u8 0, .int .u8 64] 5)) (.slice (some ⟨w.heap.size, 0, none⟩) 4 4) sz64 :=
  (Bs.of_owns (owns_box (Box.new w 5 #[.int .u8 0, .int .u8 0, .int .u8 0, .int .u8 64]) (l := sz64) rfl (by decide) (Nat.le_refl _))).1
set_option maxHeartbeats 1000000 in
theorem rten9_c (b : Int) (w : World) : Calls Try.prog 8 #[.int .i64 b] w fun e w' => ∃ v, e = .returned v ∧ Later w w' ∧ Bs w' v (tenL b) := by
  have hx := lastN_eq b
  have hx2 := lastN_le b
  have HT : Hid (tenL b = putBeI (lastN b) 4 ++ sz64) := rfl
  generalize lastN b = x at *
  have HX2 := hide hx2
  clear hx2
  go_enter Try.func8, Try.ntmps8
  go_wp2_with fail
  refine (rputBig_c x 4 _ _ (Nat.le_refl _) HX2.out).mono ?_
  rintro e w2 ⟨v2, rfl, hl, ho⟩
  have L2 : Hid (Later w w2) := hl
  rw [putBeI4_len] at ho
  have O2 := hide (owns_later ho ((Later.refl w2).alloc (.cells #[.int .u8 0, .int .u8 0, .int .u8 0, .int .u8 64] 5)))
  have L3 := hide (L2.out.alloc (.cells #[.int .u8 0, .int .u8 0, .int .u8 0, .int .u8 64] 5))
  have V3 := hide (bs_sz64 w2)
  clear ho hl
  go_wp2_with (at_builtin; refine wpList_append_bs rfl (.tmp 6) (.tmp 7) rfl w.heap.size v2 4 _ rfl O2.out _ sz64 rfl V3.out (by decide) L3.out.size w L3.out ?_)
  intro v4 w4 ho hb hg
  have V4 := hide (Bs.of_owns ho).1
  have L4 : Hid (Later w w4) := hb
  clear ho hb hg
  go_wp2
  go_ret
  exact ⟨_, rfl, L4.out, by rw [HT.out]; exact V4.out⟩
set_option maxHeartbeats 1000000 in
theorem rsix9_c (b n : Int) (w : World) : Calls Try.prog 10 #[.int .i64 b, .int .i64 n] w fun e w' => ∃ v, e = .returned v ∧ Later w w' ∧ Bs w' v (cutL (sixL b) n) := by
  have hx := lastN_eq b
  have hx2 := lastN_le b
  have HT : Hid (sixL b = putBeI (lastN b) 8 ++ (sz64 ++ zs 20)) := rfl
  generalize lastN b = x at *
  have HX2 := hide hx2
  clear hx2
  go_enter Try.func10, Try.ntmps10
  go_wp2_with fail
  refine (rputBig_c x 8 _ _ (Nat.le_refl _) HX2.out).mono ?_
  rintro e w2 ⟨v2, rfl, hl, ho⟩
  have L2 : Hid (Later w w2) := hl
  rw [putBeI8_len] at ho
  have O2 := hide (owns_later ho ((Later.refl w2).alloc (.cells #[.int .u8 0, .int .u8 0, .int .u8 0, .int .u8 64] 5)))
  have L3 := hide (L2.out.alloc (.cells #[.int .u8 0, .int .u8 0, .int .u8 0, .int .u8 64] 5))
  have V3 := hide (bs_sz64 w2)
  clear ho hl
  go_wp2_with (at_builtin; refine wpList_append_bs rfl (.tmp 9) (.tmp 10) rfl w.heap.size v2 8 _ rfl O2.out _ sz64 rfl V3.out (by decide) L3.out.size w L3.out ?_)
  intro v4 w4 ho hb hg
  obtain ⟨g4, c4, rfl⟩ := owns_slice ho (by decide)
  have O4 := hide ho
  have L4 : Hid (Later w w4) := hb
  clear ho hb hg
  go_wp2_with (at_builtin; refine wpList_append_zk 20 (by decide) (by decide) rfl (.tmp 12) rfl w.heap.size g4 12 c4 _ rfl O4.out (by decide) L4.out.size w L4.out ?_)
  intro v5 w5 ho hb
  have V5 := hide (Bs.of_owns ho).1
  rw [← HT.out] at V5
  have L5 : Hid (Later w w5) := hb
  clear ho hb
  go_wp2_with fail
  refine (rcut_c n _ V5.out (by rw [sixL_len]; decide)).mono ?_
  rintro e w6 ⟨v6, rfl, hl, hv⟩
  have V6 := hide hv
  have L6 := hide (L5.out.trans hl)
  clear hl hv
  go_wp2
  go_ret
  exact ⟨_, rfl, L6.out, V6.out⟩
end Go.Proofs.Ytoflkbilkkfekaa

namespace Go.Proofs.Ytoflkbilkkfekaa
open Go.ChangeShapes Go.WideShapes Go.ChangeAt Go.RowKit
set_option linter.unusedVariables false
set_option linter.unusedSimpArgs false

/-! The document's capacity: Luns. -/
def cntN (k : Int) : Nat := if k > 4 then 4 else if k < 0 then 0 else k.toNat
theorem cntN_le (k : Int) : cntN k ≤ 4 := by unfold cntN; (repeat' split) <;> omega
def entL (i : Nat) : List UInt8 := [0, UInt8.ofNat i, 0, 0, 0, 0, 0, 0]
def entsL : Nat → List UInt8
  | 0 => []
  | k + 1 => entsL k ++ entL k
theorem entsL_len (k : Nat) : (entsL k).length = 8 * k := by
  induction k with
  | zero => rfl
  | succ k ih => rw [entsL, List.length_append, ih]; simp [entL]; omega
def headL (c : Nat) : List UInt8 := [0, 0, 0, UInt8.ofNat (c * 8), 0, 0, 0, 0]
def lunsL (c : Nat) : List UInt8 := headL c ++ entsL c
theorem lunsL_len (c : Nat) : (lunsL c).length = 8 + 8 * c := by rw [lunsL, List.length_append, entsL_len]; rfl
theorem bs_ent (w : World) (x : UInt8) : Bs (w.alloc (.cells #[.int .u8 0, .int .u8 (x.toNat : Int), .int .u8 0, .int .u8 0, .int .u8 0, .int .u8 0, .int .u8 0, .int .u8 0] 5)) (.slice (some ⟨w.heap.size, 0, none⟩) 8 8) [0, x, 0, 0, 0, 0, 0, 0] :=
  (Bs.of_owns (owns_box (n := 8) (Box.new w 5 #[.int .u8 0, .int .u8 (x.toNat : Int), .int .u8 0, .int .u8 0, .int .u8 0, .int .u8 0, .int .u8 0, .int .u8 0]) (l := [0, x, 0, 0, 0, 0, 0, 0]) rfl (by decide) (Nat.le_refl _))).1
theorem owns_head9 (w : World) (x : UInt8) : (w.alloc (.cells #[.int .u8 0, .int .u8 0, .int .u8 0, .int .u8 (x.toNat : Int), .int .u8 0, .int .u8 0, .int .u8 0, .int .u8 0] 5)).ownsRow w.heap.size 5 1 (.slice (some ⟨w.heap.size, 0, none⟩) 8 8) 8 (bv [0, 0, 0, x, 0, 0, 0, 0]) :=
  owns_box (Box.new w 5 #[.int .u8 0, .int .u8 0, .int .u8 0, .int .u8 (x.toNat : Int), .int .u8 0, .int .u8 0, .int .u8 0, .int .u8 0]) (l := [0, 0, 0, x, 0, 0, 0, 0]) rfl (by decide) (Nat.le_refl _)
set_option maxHeartbeats 2000000 in
theorem rluns9_c (k n : Int) (w : World) : Calls Try.prog 12 #[.int .i64 k, .int .i64 n] w fun e w' => ∃ v, e = .returned v ∧ Later w w' ∧ Bs w' v (cutL (lunsL (cntN k)) n) := by
  by_cases h4 : k > 4
  · have hb : decide (4 < k) = true := by simp; omega
    rw [show cntN k = 4 by unfold cntN; rw [if_pos h4]]
    have HO : Hid ((w.alloc (.cells #[.int .u8 0, .int .u8 0, .int .u8 0, .int .u8 ((32 : UInt8).toNat : Int), .int .u8 0, .int .u8 0, .int .u8 0, .int .u8 0] 5)).ownsRow w.heap.size 5 1 (.slice (some ⟨w.heap.size, 0, none⟩) 8 8) (8 + 8 * 0) (bv (headL 4 ++ entsL 0))) := owns_head9 w 32
    have HL := hide ((Later.refl w).alloc (.cells #[.int .u8 0, .int .u8 0, .int .u8 0, .int .u8 ((32 : UInt8).toNat : Int), .int .u8 0, .int .u8 0, .int .u8 0, .int .u8 0] 5))
    go_enter Try.func12, Try.ntmps12
    go_wp2_with fail
    go_loopw [5, 6] (fun v i wr => ∃ q : Nat, q ≤ 4 ∧ i = .int .i64 q ∧ Hid (wr.ownsRow w.heap.size 5 1 v (8 + 8 * q) (bv (headL 4 ++ entsL q))) ∧ Hid (Later w wr)) (fun _ i _ => 4 - (intOf i).toNat)
    case atStart => exact ⟨0, by omega, rfl, HO, HL⟩
    case round =>
      clear HO HL
      obtain ⟨q, hq, rfl, HO, HL⟩ := hrel
      by_cases hlt : q < 4
      · obtain ⟨x, hx⟩ : ∃ x : UInt8, x = UInt8.ofNat q := ⟨_, rfl⟩
        have hxn : (x.toNat : Int) = (q : Int) := by rw [hx]; simp; omega
        have HE : Hid (headL 4 ++ entsL (q + 1) = (headL 4 ++ entsL q) ++ [0, x, 0, 0, 0, 0, 0, 0]) := by rw [Hid, entsL, hx, ← List.append_assoc]; rfl
        clear hx
        have hsz := HL.out.size
        have hone := hide (bs_ent wr x)
        rw [hxn] at hone
        have hor := hide (owns_later HO.out ((Later.refl wr).alloc (.cells #[.int .u8 0, .int .u8 (q : Int), .int .u8 0, .int .u8 0, .int .u8 0, .int .u8 0, .int .u8 0, .int .u8 0] 5)))
        have hbr := hide (HL.out.alloc (.cells #[.int .u8 0, .int .u8 (q : Int), .int .u8 0, .int .u8 0, .int .u8 0, .int .u8 0, .int .u8 0, .int .u8 0] 5))
        clear HO HL
        go_wp2_with (at_builtin; refine wpList_append_bs rfl (.tmp 20) (.tmp 23) rfl w.heap.size _ (8 + 8 * q) _ rfl hor.out _ [0, x, 0, 0, 0, 0, 0, 0] rfl hone.out ?c1 ?c2 w hbr.out ?_)
        case c1 => simp; omega
        case c2 => simp; omega
        intro v' w' ho' hb' hg'
        have R : Hid (w'.ownsRow w.heap.size 5 1 v' (8 + 8 * (q + 1)) (bv (headL 4 ++ entsL (q + 1)))) := by rw [HE.out]; first | exact ho' | (rw [List.append_assoc]; exact ho')
        have RL : Hid (Later w w') := hb'
        clear ho' hb' hg' hor hone hbr HE
        go_wp2
        go_roundw
        case rel => exact ⟨q + 1, by omega, by go_num, R, RL⟩
        case measure => simp [intOf]; omega
      · have hqn : Hid (q = 4) := by unfold Hid; omega
        have VB : Hid (Bs wr u5 (lunsL 4)) := by
          have := (Bs.of_owns HO.out).1
          rw [hqn.out] at this
          exact this
        clear HO
        go_wp2_with fail
        refine (rcut_c n _ VB.out (by rw [lunsL_len]; omega)).mono ?_
        rintro e w6 ⟨v6, rfl, hl, hv⟩
        have V6 := hide hv
        have L6 := hide (HL.out.trans hl)
        clear hl hv
        go_wp2
        go_ret
        exact ⟨_, rfl, L6.out, V6.out⟩
  have hb : decide (4 < k) = false := by simp; omega
  by_cases h0 : k < 0
  · have hb0 : decide (k < 0) = true := by simp; omega
    rw [show cntN k = 0 by unfold cntN; rw [if_neg h4, if_pos h0]]
    have HO : Hid ((w.alloc (.cells #[.int .u8 0, .int .u8 0, .int .u8 0, .int .u8 ((0 : UInt8).toNat : Int), .int .u8 0, .int .u8 0, .int .u8 0, .int .u8 0] 5)).ownsRow w.heap.size 5 1 (.slice (some ⟨w.heap.size, 0, none⟩) 8 8) (8 + 8 * 0) (bv (headL 0 ++ entsL 0))) := owns_head9 w 0
    have HL := hide ((Later.refl w).alloc (.cells #[.int .u8 0, .int .u8 0, .int .u8 0, .int .u8 ((0 : UInt8).toNat : Int), .int .u8 0, .int .u8 0, .int .u8 0, .int .u8 0] 5))
    go_enter Try.func12, Try.ntmps12
    go_wp2_with fail
    go_loopw [5, 6] (fun v i wr => ∃ q : Nat, q ≤ 0 ∧ i = .int .i64 q ∧ Hid (wr.ownsRow w.heap.size 5 1 v (8 + 8 * q) (bv (headL 0 ++ entsL q))) ∧ Hid (Later w wr)) (fun _ i _ => 0 - (intOf i).toNat)
    case atStart => exact ⟨0, by omega, rfl, HO, HL⟩
    case round =>
      clear HO HL
      obtain ⟨q, hq, rfl, HO, HL⟩ := hrel
      by_cases hlt : q < 0
      · omega
      · have hqn : Hid (q = 0) := by unfold Hid; omega
        have VB : Hid (Bs wr u5 (lunsL 0)) := by
          have := (Bs.of_owns HO.out).1
          rw [hqn.out] at this
          exact this
        clear HO
        go_wp2_with fail
        refine (rcut_c n _ VB.out (by rw [lunsL_len]; omega)).mono ?_
        rintro e w6 ⟨v6, rfl, hl, hv⟩
        have V6 := hide hv
        have L6 := hide (HL.out.trans hl)
        clear hl hv
        go_wp2
        go_ret
        exact ⟨_, rfl, L6.out, V6.out⟩
  have hb0 : decide (k < 0) = false := by simp; omega
  obtain ⟨c, rfl⟩ : ∃ c : Nat, k = c := ⟨k.toNat, by omega⟩
  rw [show cntN (c : Int) = c by unfold cntN; rw [if_neg h4, if_neg h0]; omega]
  rcases (show c = 0 ∨ c = 1 ∨ c = 2 ∨ c = 3 ∨ c = 4 by omega) with rfl | rfl | rfl | rfl | rfl
  · have HO : Hid ((w.alloc (.cells #[.int .u8 0, .int .u8 0, .int .u8 0, .int .u8 ((0 : UInt8).toNat : Int), .int .u8 0, .int .u8 0, .int .u8 0, .int .u8 0] 5)).ownsRow w.heap.size 5 1 (.slice (some ⟨w.heap.size, 0, none⟩) 8 8) (8 + 8 * 0) (bv (headL 0 ++ entsL 0))) := owns_head9 w 0
    have HL := hide ((Later.refl w).alloc (.cells #[.int .u8 0, .int .u8 0, .int .u8 0, .int .u8 ((0 : UInt8).toNat : Int), .int .u8 0, .int .u8 0, .int .u8 0, .int .u8 0] 5))
    go_enter Try.func12, Try.ntmps12
    go_wp2_with fail
    go_loopw [5, 6] (fun v i wr => ∃ q : Nat, q ≤ 0 ∧ i = .int .i64 q ∧ Hid (wr.ownsRow w.heap.size 5 1 v (8 + 8 * q) (bv (headL 0 ++ entsL q))) ∧ Hid (Later w wr)) (fun _ i _ => 0 - (intOf i).toNat)
    case atStart => exact ⟨0, by omega, rfl, HO, HL⟩
    case round =>
      clear HO HL
      obtain ⟨q, hq, rfl, HO, HL⟩ := hrel
      by_cases hlt : q < 0
      · omega
      · have hqn : Hid (q = 0) := by unfold Hid; omega
        have VB : Hid (Bs wr u5 (lunsL 0)) := by
          have := (Bs.of_owns HO.out).1
          rw [hqn.out] at this
          exact this
        clear HO
        go_wp2_with fail
        refine (rcut_c n _ VB.out (by rw [lunsL_len]; omega)).mono ?_
        rintro e w6 ⟨v6, rfl, hl, hv⟩
        have V6 := hide hv
        have L6 := hide (HL.out.trans hl)
        clear hl hv
        go_wp2
        go_ret
        exact ⟨_, rfl, L6.out, V6.out⟩
  · have HO : Hid ((w.alloc (.cells #[.int .u8 0, .int .u8 0, .int .u8 0, .int .u8 ((8 : UInt8).toNat : Int), .int .u8 0, .int .u8 0, .int .u8 0, .int .u8 0] 5)).ownsRow w.heap.size 5 1 (.slice (some ⟨w.heap.size, 0, none⟩) 8 8) (8 + 8 * 0) (bv (headL 1 ++ entsL 0))) := owns_head9 w 8
    have HL := hide ((Later.refl w).alloc (.cells #[.int .u8 0, .int .u8 0, .int .u8 0, .int .u8 ((8 : UInt8).toNat : Int), .int .u8 0, .int .u8 0, .int .u8 0, .int .u8 0] 5))
    go_enter Try.func12, Try.ntmps12
    go_wp2_with fail
    go_loopw [5, 6] (fun v i wr => ∃ q : Nat, q ≤ 1 ∧ i = .int .i64 q ∧ Hid (wr.ownsRow w.heap.size 5 1 v (8 + 8 * q) (bv (headL 1 ++ entsL q))) ∧ Hid (Later w wr)) (fun _ i _ => 1 - (intOf i).toNat)
    case atStart => exact ⟨0, by omega, rfl, HO, HL⟩
    case round =>
      clear HO HL
      obtain ⟨q, hq, rfl, HO, HL⟩ := hrel
      by_cases hlt : q < 1
      · obtain ⟨x, hx⟩ : ∃ x : UInt8, x = UInt8.ofNat q := ⟨_, rfl⟩
        have hxn : (x.toNat : Int) = (q : Int) := by rw [hx]; simp; omega
        have HE : Hid (headL 1 ++ entsL (q + 1) = (headL 1 ++ entsL q) ++ [0, x, 0, 0, 0, 0, 0, 0]) := by rw [Hid, entsL, hx, ← List.append_assoc]; rfl
        clear hx
        have hsz := HL.out.size
        have hone := hide (bs_ent wr x)
        rw [hxn] at hone
        have hor := hide (owns_later HO.out ((Later.refl wr).alloc (.cells #[.int .u8 0, .int .u8 (q : Int), .int .u8 0, .int .u8 0, .int .u8 0, .int .u8 0, .int .u8 0, .int .u8 0] 5)))
        have hbr := hide (HL.out.alloc (.cells #[.int .u8 0, .int .u8 (q : Int), .int .u8 0, .int .u8 0, .int .u8 0, .int .u8 0, .int .u8 0, .int .u8 0] 5))
        clear HO HL
        go_wp2_with (at_builtin; refine wpList_append_bs rfl (.tmp 20) (.tmp 23) rfl w.heap.size _ (8 + 8 * q) _ rfl hor.out _ [0, x, 0, 0, 0, 0, 0, 0] rfl hone.out ?c1 ?c2 w hbr.out ?_)
        case c1 => simp; omega
        case c2 => simp; omega
        intro v' w' ho' hb' hg'
        have R : Hid (w'.ownsRow w.heap.size 5 1 v' (8 + 8 * (q + 1)) (bv (headL 1 ++ entsL (q + 1)))) := by rw [HE.out]; first | exact ho' | (rw [List.append_assoc]; exact ho')
        have RL : Hid (Later w w') := hb'
        clear ho' hb' hg' hor hone hbr HE
        go_wp2
        go_roundw
        case rel => exact ⟨q + 1, by omega, by go_num, R, RL⟩
        case measure => simp [intOf]; omega
      · have hqn : Hid (q = 1) := by unfold Hid; omega
        have VB : Hid (Bs wr u5 (lunsL 1)) := by
          have := (Bs.of_owns HO.out).1
          rw [hqn.out] at this
          exact this
        clear HO
        go_wp2_with fail
        refine (rcut_c n _ VB.out (by rw [lunsL_len]; omega)).mono ?_
        rintro e w6 ⟨v6, rfl, hl, hv⟩
        have V6 := hide hv
        have L6 := hide (HL.out.trans hl)
        clear hl hv
        go_wp2
        go_ret
        exact ⟨_, rfl, L6.out, V6.out⟩
  · have HO : Hid ((w.alloc (.cells #[.int .u8 0, .int .u8 0, .int .u8 0, .int .u8 ((16 : UInt8).toNat : Int), .int .u8 0, .int .u8 0, .int .u8 0, .int .u8 0] 5)).ownsRow w.heap.size 5 1 (.slice (some ⟨w.heap.size, 0, none⟩) 8 8) (8 + 8 * 0) (bv (headL 2 ++ entsL 0))) := owns_head9 w 16
    have HL := hide ((Later.refl w).alloc (.cells #[.int .u8 0, .int .u8 0, .int .u8 0, .int .u8 ((16 : UInt8).toNat : Int), .int .u8 0, .int .u8 0, .int .u8 0, .int .u8 0] 5))
    go_enter Try.func12, Try.ntmps12
    go_wp2_with fail
    go_loopw [5, 6] (fun v i wr => ∃ q : Nat, q ≤ 2 ∧ i = .int .i64 q ∧ Hid (wr.ownsRow w.heap.size 5 1 v (8 + 8 * q) (bv (headL 2 ++ entsL q))) ∧ Hid (Later w wr)) (fun _ i _ => 2 - (intOf i).toNat)
    case atStart => exact ⟨0, by omega, rfl, HO, HL⟩
    case round =>
      clear HO HL
      obtain ⟨q, hq, rfl, HO, HL⟩ := hrel
      by_cases hlt : q < 2
      · obtain ⟨x, hx⟩ : ∃ x : UInt8, x = UInt8.ofNat q := ⟨_, rfl⟩
        have hxn : (x.toNat : Int) = (q : Int) := by rw [hx]; simp; omega
        have HE : Hid (headL 2 ++ entsL (q + 1) = (headL 2 ++ entsL q) ++ [0, x, 0, 0, 0, 0, 0, 0]) := by rw [Hid, entsL, hx, ← List.append_assoc]; rfl
        clear hx
        have hsz := HL.out.size
        have hone := hide (bs_ent wr x)
        rw [hxn] at hone
        have hor := hide (owns_later HO.out ((Later.refl wr).alloc (.cells #[.int .u8 0, .int .u8 (q : Int), .int .u8 0, .int .u8 0, .int .u8 0, .int .u8 0, .int .u8 0, .int .u8 0] 5)))
        have hbr := hide (HL.out.alloc (.cells #[.int .u8 0, .int .u8 (q : Int), .int .u8 0, .int .u8 0, .int .u8 0, .int .u8 0, .int .u8 0, .int .u8 0] 5))
        clear HO HL
        go_wp2_with (at_builtin; refine wpList_append_bs rfl (.tmp 20) (.tmp 23) rfl w.heap.size _ (8 + 8 * q) _ rfl hor.out _ [0, x, 0, 0, 0, 0, 0, 0] rfl hone.out ?c1 ?c2 w hbr.out ?_)
        case c1 => simp; omega
        case c2 => simp; omega
        intro v' w' ho' hb' hg'
        have R : Hid (w'.ownsRow w.heap.size 5 1 v' (8 + 8 * (q + 1)) (bv (headL 2 ++ entsL (q + 1)))) := by rw [HE.out]; first | exact ho' | (rw [List.append_assoc]; exact ho')
        have RL : Hid (Later w w') := hb'
        clear ho' hb' hg' hor hone hbr HE
        go_wp2
        go_roundw
        case rel => exact ⟨q + 1, by omega, by go_num, R, RL⟩
        case measure => simp [intOf]; omega
      · have hqn : Hid (q = 2) := by unfold Hid; omega
        have VB : Hid (Bs wr u5 (lunsL 2)) := by
          have := (Bs.of_owns HO.out).1
          rw [hqn.out] at this
          exact this
        clear HO
        go_wp2_with fail
        refine (rcut_c n _ VB.out (by rw [lunsL_len]; omega)).mono ?_
        rintro e w6 ⟨v6, rfl, hl, hv⟩
        have V6 := hide hv
        have L6 := hide (HL.out.trans hl)
        clear hl hv
        go_wp2
        go_ret
        exact ⟨_, rfl, L6.out, V6.out⟩
  · have HO : Hid ((w.alloc (.cells #[.int .u8 0, .int .u8 0, .int .u8 0, .int .u8 ((24 : UInt8).toNat : Int), .int .u8 0, .int .u8 0, .int .u8 0, .int .u8 0] 5)).ownsRow w.heap.size 5 1 (.slice (some ⟨w.heap.size, 0, none⟩) 8 8) (8 + 8 * 0) (bv (headL 3 ++ entsL 0))) := owns_head9 w 24
    have HL := hide ((Later.refl w).alloc (.cells #[.int .u8 0, .int .u8 0, .int .u8 0, .int .u8 ((24 : UInt8).toNat : Int), .int .u8 0, .int .u8 0, .int .u8 0, .int .u8 0] 5))
    go_enter Try.func12, Try.ntmps12
    go_wp2_with fail
    go_loopw [5, 6] (fun v i wr => ∃ q : Nat, q ≤ 3 ∧ i = .int .i64 q ∧ Hid (wr.ownsRow w.heap.size 5 1 v (8 + 8 * q) (bv (headL 3 ++ entsL q))) ∧ Hid (Later w wr)) (fun _ i _ => 3 - (intOf i).toNat)
    case atStart => exact ⟨0, by omega, rfl, HO, HL⟩
    case round =>
      clear HO HL
      obtain ⟨q, hq, rfl, HO, HL⟩ := hrel
      by_cases hlt : q < 3
      · obtain ⟨x, hx⟩ : ∃ x : UInt8, x = UInt8.ofNat q := ⟨_, rfl⟩
        have hxn : (x.toNat : Int) = (q : Int) := by rw [hx]; simp; omega
        have HE : Hid (headL 3 ++ entsL (q + 1) = (headL 3 ++ entsL q) ++ [0, x, 0, 0, 0, 0, 0, 0]) := by rw [Hid, entsL, hx, ← List.append_assoc]; rfl
        clear hx
        have hsz := HL.out.size
        have hone := hide (bs_ent wr x)
        rw [hxn] at hone
        have hor := hide (owns_later HO.out ((Later.refl wr).alloc (.cells #[.int .u8 0, .int .u8 (q : Int), .int .u8 0, .int .u8 0, .int .u8 0, .int .u8 0, .int .u8 0, .int .u8 0] 5)))
        have hbr := hide (HL.out.alloc (.cells #[.int .u8 0, .int .u8 (q : Int), .int .u8 0, .int .u8 0, .int .u8 0, .int .u8 0, .int .u8 0, .int .u8 0] 5))
        clear HO HL
        go_wp2_with (at_builtin; refine wpList_append_bs rfl (.tmp 20) (.tmp 23) rfl w.heap.size _ (8 + 8 * q) _ rfl hor.out _ [0, x, 0, 0, 0, 0, 0, 0] rfl hone.out ?c1 ?c2 w hbr.out ?_)
        case c1 => simp; omega
        case c2 => simp; omega
        intro v' w' ho' hb' hg'
        have R : Hid (w'.ownsRow w.heap.size 5 1 v' (8 + 8 * (q + 1)) (bv (headL 3 ++ entsL (q + 1)))) := by rw [HE.out]; first | exact ho' | (rw [List.append_assoc]; exact ho')
        have RL : Hid (Later w w') := hb'
        clear ho' hb' hg' hor hone hbr HE
        go_wp2
        go_roundw
        case rel => exact ⟨q + 1, by omega, by go_num, R, RL⟩
        case measure => simp [intOf]; omega
      · have hqn : Hid (q = 3) := by unfold Hid; omega
        have VB : Hid (Bs wr u5 (lunsL 3)) := by
          have := (Bs.of_owns HO.out).1
          rw [hqn.out] at this
          exact this
        clear HO
        go_wp2_with fail
        refine (rcut_c n _ VB.out (by rw [lunsL_len]; omega)).mono ?_
        rintro e w6 ⟨v6, rfl, hl, hv⟩
        have V6 := hide hv
        have L6 := hide (HL.out.trans hl)
        clear hl hv
        go_wp2
        go_ret
        exact ⟨_, rfl, L6.out, V6.out⟩
  · have HO : Hid ((w.alloc (.cells #[.int .u8 0, .int .u8 0, .int .u8 0, .int .u8 ((32 : UInt8).toNat : Int), .int .u8 0, .int .u8 0, .int .u8 0, .int .u8 0] 5)).ownsRow w.heap.size 5 1 (.slice (some ⟨w.heap.size, 0, none⟩) 8 8) (8 + 8 * 0) (bv (headL 4 ++ entsL 0))) := owns_head9 w 32
    have HL := hide ((Later.refl w).alloc (.cells #[.int .u8 0, .int .u8 0, .int .u8 0, .int .u8 ((32 : UInt8).toNat : Int), .int .u8 0, .int .u8 0, .int .u8 0, .int .u8 0] 5))
    go_enter Try.func12, Try.ntmps12
    go_wp2_with fail
    go_loopw [5, 6] (fun v i wr => ∃ q : Nat, q ≤ 4 ∧ i = .int .i64 q ∧ Hid (wr.ownsRow w.heap.size 5 1 v (8 + 8 * q) (bv (headL 4 ++ entsL q))) ∧ Hid (Later w wr)) (fun _ i _ => 4 - (intOf i).toNat)
    case atStart => exact ⟨0, by omega, rfl, HO, HL⟩
    case round =>
      clear HO HL
      obtain ⟨q, hq, rfl, HO, HL⟩ := hrel
      by_cases hlt : q < 4
      · obtain ⟨x, hx⟩ : ∃ x : UInt8, x = UInt8.ofNat q := ⟨_, rfl⟩
        have hxn : (x.toNat : Int) = (q : Int) := by rw [hx]; simp; omega
        have HE : Hid (headL 4 ++ entsL (q + 1) = (headL 4 ++ entsL q) ++ [0, x, 0, 0, 0, 0, 0, 0]) := by rw [Hid, entsL, hx, ← List.append_assoc]; rfl
        clear hx
        have hsz := HL.out.size
        have hone := hide (bs_ent wr x)
        rw [hxn] at hone
        have hor := hide (owns_later HO.out ((Later.refl wr).alloc (.cells #[.int .u8 0, .int .u8 (q : Int), .int .u8 0, .int .u8 0, .int .u8 0, .int .u8 0, .int .u8 0, .int .u8 0] 5)))
        have hbr := hide (HL.out.alloc (.cells #[.int .u8 0, .int .u8 (q : Int), .int .u8 0, .int .u8 0, .int .u8 0, .int .u8 0, .int .u8 0, .int .u8 0] 5))
        clear HO HL
        go_wp2_with (at_builtin; refine wpList_append_bs rfl (.tmp 20) (.tmp 23) rfl w.heap.size _ (8 + 8 * q) _ rfl hor.out _ [0, x, 0, 0, 0, 0, 0, 0] rfl hone.out ?c1 ?c2 w hbr.out ?_)
        case c1 => simp; omega
        case c2 => simp; omega
        intro v' w' ho' hb' hg'
        have R : Hid (w'.ownsRow w.heap.size 5 1 v' (8 + 8 * (q + 1)) (bv (headL 4 ++ entsL (q + 1)))) := by rw [HE.out]; first | exact ho' | (rw [List.append_assoc]; exact ho')
        have RL : Hid (Later w w') := hb'
        clear ho' hb' hg' hor hone hbr HE
        go_wp2
        go_roundw
        case rel => exact ⟨q + 1, by omega, by go_num, R, RL⟩
        case measure => simp [intOf]; omega
      · have hqn : Hid (q = 4) := by unfold Hid; omega
        have VB : Hid (Bs wr u5 (lunsL 4)) := by
          have := (Bs.of_owns HO.out).1
          rw [hqn.out] at this
          exact this
        clear HO
        go_wp2_with fail
        refine (rcut_c n _ VB.out (by rw [lunsL_len]; omega)).mono ?_
        rintro e w6 ⟨v6, rfl, hl, hv⟩
        have V6 := hide hv
        have L6 := hide (HL.out.trans hl)
        clear hl hv
        go_wp2
        go_ret
        exact ⟨_, rfl, L6.out, V6.out⟩
end Go.Proofs.Ytoflkbilkkfekaa
