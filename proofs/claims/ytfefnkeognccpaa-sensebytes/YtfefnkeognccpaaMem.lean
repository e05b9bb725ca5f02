import Derived.Test.YtfefnkeognccpaaBase
import Derived.Laws.IdiomStrings
import Derived.Laws.BytesArg
import Derived.Laws.CopyOwn
import Derived.Deep.AppendSrc
import Derived.Carry
namespace Go.Proofs.Ytfefnkeognccpaa
open Go.ChangeShapes Go.WideShapes Go.ChangeAt Go.RowKit
set_option linter.unusedVariables false
set_option linter.unusedSimpArgs false

/-! Bytes in memory. -/
def bv (l : List UInt8) : List Value := l.map fun b => Value.int .u8 (b.toNat : Int)
theorem bv_length (l : List UInt8) : (bv l).length = l.length := by simp [bv]
theorem bv_append (l m : List UInt8) : bv (l ++ m) = bv l ++ bv m := by simp [bv]
theorem bv_get (l : List UInt8) (j : Nat) : (bv l)[j]? = (l[j]?).map fun b => Value.int .u8 (b.toNat : Int) := by simp [bv]
theorem bv_get_lt (l : List UInt8) (j : Nat) (h : j < l.length) : (bv l)[j]? = some (.int .u8 (l[j].toNat : Int)) := by simp [bv, h]
theorem bv_one (l : List UInt8) : ∀ u ∈ bv l, u.oneCell' = true := by
  intro u hu
  obtain ⟨b, _, rfl⟩ := List.mem_map.1 hu
  rfl
theorem bv_set (l : List UInt8) (j : Nat) (b : UInt8) : bv (l.set j b) = (bv l).set j (.int .u8 (b.toNat : Int)) := by simp [bv]
theorem bv_replicate (n : Nat) : bv (List.replicate n 0) = List.replicate n (.int .u8 0) := by simp [bv]

/-- the slice v reads as the bytes l -/
def Bs (w : World) (v : Value) (l : List UInt8) : Prop :=
  l.length ≤ maxLen ∧ ∃ a cap, v = .slice a l.length cap ∧ l.length ≤ cap ∧ (l = [] ∨ ∃ b off, a = some ⟨b, off, none⟩ ∧ ∀ j (hj : j < l.length), w.cell? ⟨b, off + j, none⟩ = some (.int .u8 (l[j].toNat : Int)))

theorem Bs.nil (w : World) : Bs w (.slice none 0 0) [] := ⟨by simp, none, 0, rfl, Nat.le_refl _, .inl rfl⟩

theorem Bs.of_owns {w : World} {base : Nat} {e : TypeId} {v : Value} {n : Nat} {l : List UInt8} (h : w.ownsRow base e 1 v n (bv l)) : Bs w v l ∧ n = l.length := by
  have hn : n = l.length := by have := h.1; rw [bv_length] at this; omega
  subst hn
  refine ⟨?_, rfl⟩
  rcases h.2 with ⟨rfl, h0⟩ | ⟨g, cap, cur, rfl, hb, hg, hc, hm, hs, ht⟩
  · have : l = [] := List.eq_nil_of_length_eq_zero h0
    subst this
    exact Bs.nil w
  · refine ⟨Nat.le_trans hc hm, some ⟨g, 0, none⟩, cap, rfl, hc, .inr ⟨g, 0, rfl, fun j hj => ?_⟩⟩
    have := h.cellAt j (by omega)
    rw [Nat.zero_add, this, bv_get_lt l j hj]

theorem Bs.cellsOf {w : World} {v : Value} {l : List UInt8} (h : Bs w v l) {w' : World} (hc : ∀ a u, w.cell? a = some u → w'.cell? a = some u) : Bs w' v l := by
  obtain ⟨hm, a, cap, rfl, hcap, h⟩ := h
  refine ⟨hm, a, cap, rfl, hcap, ?_⟩
  rcases h with h | ⟨b, off, ha, h⟩
  · exact .inl h
  · exact .inr ⟨b, off, ha, fun j hj => hc _ _ (h j hj)⟩

theorem Bs.below {w w' : World} {B : Nat} {v : Value} {l : List UInt8} (h : Bs w v l) (hb : Below B w w') (hB : w.heap.size ≤ B) : Bs w' v l :=
  h.cellsOf fun a u hu => by
    have : a.block < w.heap.size := World.block_lt_of_cell? w a hu
    rw [hb.cell (by omega)]; exact hu

theorem Bs.drewN {w : World} {v : Value} {l : List UInt8} (h : Bs w v l) (n : Nat) : Bs (w.drewN n) v l := h.cellsOf fun a u hu => by simpa using hu

theorem Bs.str {w : World} {v : Value} {l : List UInt8} (h : Bs w v l) : (convert 24 9 v).run Try.prog w = .ok (.string ⟨l.toArray⟩) w := by
  obtain ⟨hm, a, cap, rfl, hcap, h⟩ := h
  rcases h with rfl | ⟨b, off, rfl, h⟩
  · cases a with
    | none => exact run_convert_bytes_nil w 24 5 Try.underlying24 Try.underlying5 0 cap _ Try.underlying9
    | some a => exact run_convert_bytes_back w 24 9 5 a cap [] Try.underlying24 Try.underlying5 Try.underlying9 (fun j hj => by simp at hj)
  · exact run_convert_bytes_back w 24 9 5 ⟨b, off, none⟩ cap l Try.underlying24 Try.underlying5 Try.underlying9 (fun j hj => by
      have : (⟨b, off, none⟩ : Addr).add j = ⟨b, off + j, none⟩ := by unfold Addr.add; split <;> simp_all
      rw [this]; exact h j hj)

theorem Try.info_u8 : (Try.prog.info? 5).map (fun i => (i.zero, i.size, i.bytes)) = some (some (.int .u8 0), 1, 1) := by kernel_rfl

theorem Below.grown0 {w w' : World} (hg : w.grownBy w' none) : Below w.heap.size w w' := (Below.refl _ _).grown hg (Nat.le_refl _) (fun k e => by cases e)

/-- 'copy(b, s)' of a string's bytes into a row of our own, from its head. -/
theorem run_copy_str (w : World) (ty : TypeId) (g dLen dCap : Nat) (s : ByteArray) (cur : Array Value) (t : TypeId) (hg : w.heap[g]? = some (.cells cur t (0, 0))) (hfit : dLen ≤ cur.size) :
    (Builtin.copy_ #[24, 9] ty #[.slice (some ⟨g, 0, none⟩) dLen dCap, .string s]).run Try.prog w =
      .ok (goInt (Nat.min s.size dLen)) (w.setRow g (bv (s.data.toList.take (Nat.min s.size dLen)) ++ cur.toList.drop (Nat.min s.size dLen)).toArray) := by
  obtain ⟨i0, hi, hz0, hz1, hz2⟩ := info_parts Try.info_u8
  have hsl : s.data.toList.length = s.size := by rw [Array.length_toList]; rfl
  have hcl : (bv (s.data.toList.take (Nat.min s.size dLen))).length = Nat.min s.size dLen := by
    rw [bv_length, List.length_take, hsl]; exact Nat.min_eq_left (Nat.min_le_left _ _)
  have hle : Nat.min s.size dLen ≤ dLen := Nat.min_le_right _ _
  have hst := run_storeCells_at Try.prog g 0 t (bv (s.data.toList.take (Nat.min s.size dLen))) 0 cur w hg (by rw [hcl]; omega) (bv_one _)
  rw [hcl] at hst
  have hfc : List.take (Nat.min s.size dLen) (List.map (fun b => Value.int .u8 (b.toNat : Int)) s.data.toList) = bv (s.data.toList.take (Nat.min s.size dLen)) := by simp [bv]
  simp [Builtin.copy_, run_underlying Try.underlying24, Builtin.lenOf, Builtin.firstCells, sizeOf, typeInfo, hi]
  rw [hfc, hst]
  simp

theorem run_copy_str_own {w : World} (ty : TypeId) (B g n : Nat) (s : ByteArray) (l : List UInt8) (hBg : B ≤ g)
    (hown : w.ownsRow B 5 1 (.slice (some ⟨g, 0, none⟩) n n) n (bv l)) (w0 : World) (hb : Below B w0 w) :
    ∃ w', (Builtin.copy_ #[24, 9] ty #[.slice (some ⟨g, 0, none⟩) n n, .string s]).run Try.prog w = .ok (.int .i64 ((Nat.min s.size n : Nat) : Int)) w' ∧
      w'.ownsRow B 5 1 (.slice (some ⟨g, 0, none⟩) n n) n (bv (s.data.toList.take (Nat.min s.size n) ++ l.drop (Nat.min s.size n))) ∧ Below B w0 w' := by
  have hn : n = l.length := by have := hown.1; rw [bv_length] at this; omega
  have hle : Nat.min s.size n ≤ n := Nat.min_le_right _ _
  have hls : Nat.min s.size n ≤ s.size := Nat.min_le_left _ _
  have hsl : s.data.toList.length = s.size := by rw [Array.length_toList]; rfl
  rcases hown.2 with ⟨h', _⟩ | ⟨g', cap', cur, h', hbg, hg, hc, hm, hs, ht⟩
  · simp at h'
  · simp only [Value.slice.injEq, Option.some.injEq, Addr.mk.injEq, and_true, true_and] at h'
    obtain ⟨rfl, rfl⟩ := h'
    refine ⟨_, run_copy_str w ty g n n s cur 5 hg (by omega), ?_, below_setRow hb hBg _⟩
    have hcur : cur.toList = bv l := by rw [← ht, List.take_of_length_le (by rw [Array.length_toList, hs]; exact Nat.le_refl _)]
    refine ⟨by rw [bv_length, List.length_append, List.length_take, List.length_drop, hsl]; omega, .inr ⟨g, n, _, rfl, hbg, setRow_heap w g _ _ 5 _ hg, Nat.le_refl _, hm, ?_, ?_⟩⟩
    · rw [hcur]
      simp only [List.size_toArray, List.length_append, bv_length, List.length_take, List.length_drop, hsl]
      omega
    · rw [hcur, bv_append, List.take_of_length_le (by simp only [List.length_append, bv_length, List.length_take, List.length_drop, hsl]; omega)]
      simp [bv, List.map_drop]

theorem Bs.one (w : World) (b : UInt8) (t : TypeId) : Bs (w.alloc (.cells #[.int .u8 (b.toNat : Int)] t)) (.slice (some ⟨w.heap.size, 0, none⟩) 1 1) [b] := by
  refine ⟨by simp [maxLen], _, 1, rfl, Nat.le_refl _, .inr ⟨w.heap.size, 0, rfl, fun j hj => ?_⟩⟩
  have : j = 0 := by simp at hj; omega
  subst this
  exact cell_of_row (w.alloc (.cells #[.int .u8 (b.toNat : Int)] t)) w.heap.size 0 _ t (0, 0) (heap_alloc_new w _)

/-- 'append(a, b...)': a our own, b whatever bytes. -/
theorem wpList_append_bs {w : World} {ops : Array Oper} {rest : List Oper} {o : Oper} {a : Act} {Q : Exit → Act → World → Prop} (hgd : o.guard = none) (s x : Operand)
    (ho : o.op = .call { callee := .builtin .append, args := #[s, x], argTypes := #[24, 24] }) (B : Nat)
    (v : Value) (n : Nat) (l : List UInt8) (hs : a.eval s = v) (hown : w.ownsRow B 5 1 v n (bv l)) (u : Value) (m : List UInt8) (hx : a.eval x = u) (hu : Bs w u m)
    (hbytes : n + m.length ≤ 140737488355328) (hbase : B ≤ w.heap.size) (w0 : World) (hb : Below B w0 w)
    (h : ∀ v' w', w'.ownsRow B 5 1 v' (n + m.length) (bv (l ++ m)) → Below B w0 w' → w.grownBy w' v.ownBlock → wpList Try.prog ops Q rest (a.put o.dst v') w') : wpList Try.prog ops Q (o :: rest) a w := by
  obtain ⟨i0, hi, hz0, hz1, hz2⟩ := info_parts Try.info_u8
  have hB : ∀ k, v.ownBlock = some k → B ≤ k := fun k hk => (hown.lt k hk).1
  obtain ⟨hm, ad, cap, rfl, hcap, hu⟩ := hu
  cases ad with
  | none =>
    have hm0 : m = [] := by
      rcases hu with h | ⟨_, _, h, _⟩
      · exact h
      · cases h
    subst hm0
    refine wpList_plain hgd fun K hK => ?_
    have hrun : (Builtin.append_ #[24, 24] o.type #[v, .slice none 0 cap]).run Try.prog w = .ok v w := by
      rcases hown.2 with ⟨rfl, h0⟩ | ⟨g, c, cur, rfl, hbg, hg, hc, hmm, hsz, ht⟩
      · simp [Builtin.append_, run_underlying Try.underlying24, sizeOf, typeInfo, hi, Builtin.lenOf, Builtin.firstCells]
      · simp [Builtin.append_, run_underlying Try.underlying24, sizeOf, typeInfo, hi, Builtin.lenOf, Builtin.firstCells, hc, storeCells]
    unfold Oper.wp
    simp [execOp, ho, resolve, invoke, builtin, hs, hx, hrun, Result.andThen]
    exact hK _ _ (h v w (by simpa using hown) hb (World.grownBy.refl _ _))
  | some ad =>
    refine wpList_append_own w hgd s x 24 ho B 5 i0 (.int .u8 0) 1 1 Try.underlying24 hi hz0 hz1 hz2 rfl (by decide) v n (bv l) hs hown ad m.length cap (bv m) hx (by rw [bv_length]; omega) ?_ (bv_one m) (by unfold maxLen; omega) (by omega) hbase ?_
    · intro j z hz
      rcases hu with rfl | ⟨b, off, e, hc⟩
      · simp [bv] at hz
      · cases e
        have hj : j < m.length := by
          have := (List.getElem?_eq_some_iff.1 hz).1
          rwa [bv_length] at this
        have he : (⟨b, off, none⟩ : Addr).add j = ⟨b, off + j, none⟩ := by unfold Addr.add; split <;> simp_all
        rw [he, hc j hj, ← hz, bv_get_lt m j hj]
    · intro v' w' ho' hg' _
      exact h v' w' (by rw [bv_append]; exact ho') (hb.grown hg' hbase hB) hg'

/-- WHAT THE WALK IS TOLD OF A SLICE OF INTEGERS THAT CAME IN. -/
def IsRow (k : IntKind) (w : World) (a : Option Addr) (len cap : Nat) (zs : List Int) : Prop :=
  (a = none ∧ len = 0 ∧ cap = 0 ∧ zs = []) ∨
  ∃ x, a = some x ∧ len ≤ cap ∧ cap ≤ maxLen ∧ zs.length = cap ∧ (∀ i, i < zs.length → w.cell? (x.add i) = some (.int k (zs.getD i 0))) ∧ ∀ n ∈ zs, (Lit.int k n).wf = true

theorem IsRow.bs {w : World} {a : Option Addr} {len cap : Nat} {zs : List Int} (h : IsRow .u8 w a len cap zs) : ∃ l : List UInt8, l.length = len ∧ Bs w (.slice a len cap) l := by
  rcases h with ⟨rfl, rfl, rfl, rfl⟩ | ⟨x, rfl, hl, hm, hz, hc, hw⟩
  · exact ⟨[], rfl, Bs.nil w⟩
  · have hlen : ((zs.take len).map fun n => UInt8.ofNat n.toNat).length = len := by simp; omega
    refine ⟨(zs.take len).map fun n => UInt8.ofNat n.toNat, hlen, by rw [hlen]; omega, some x, cap, by rw [hlen], by rw [hlen]; exact hl, ?_⟩
    by_cases h0 : len = 0
    · left; subst h0; simp
    · right
      obtain ⟨b, off, spot⟩ := x
      have hspot : spot = none := by simpa [Addr.add] using World.cell?_spot (hc 0 (by omega))
      subst hspot
      refine ⟨b, off, rfl, fun j hj => ?_⟩
      rw [hlen] at hj
      have hj' : j < zs.length := by omega
      have e := hc j hj'
      have ha : (⟨b, off, none⟩ : Addr).add j = ⟨b, off + j, none⟩ := by unfold Addr.add; split <;> simp_all
      rw [ha] at e
      rw [e]
      have hwf := bounds_u8 (hw zs[j] (List.getElem_mem hj'))
      simp [List.getD, List.getElem?_eq_getElem hj']
      omega
end Go.Proofs.Ytfefnkeognccpaa
