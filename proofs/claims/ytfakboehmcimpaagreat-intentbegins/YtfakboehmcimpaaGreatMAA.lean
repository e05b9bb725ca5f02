import Derived.WalkKit
import Derived.Test.YtfakboehmcimpaaGreatRows
import Derived.ProofKit
import Derived.OpenShut
import Derived.ShutString
import Derived.ChangeOld
import Derived.Below
import Derived.WalkLawsBesides
import Derived.WalkSpells
import Derived.Deep.QuietTactic
import Derived.BigQuiet
import Derived.Laws.IdiomStrings
import Derived.Laws.BytesArg
import Derived.Laws.CopyOwn
import Derived.Deep.AppendSrc
import Derived.Carry
import Derived.Lib.QuietBelow
namespace Go.Proofs.YtfakboehmcimpaaGreat
/-! Plain numbers: bytes, bits. -/
theorem hide {p : Prop} (h : p) : RowKit.Hid p := h
theorem ret_int {k : IntKind} {a b : Int} (h : a = b) : Ending.returned (.int k a) = .returned (.int k b) := by rw [h]
theorem ret_bool {a b : Bool} (h : a = b) : Ending.returned (.bool a) = .returned (.bool b) := by rw [h]
def areB (f n : Int) : Bool := decide (1 ≤ n ∧ n ≤ 64 ∧ 0 ≤ f ∧ f ≤ 64 - n)
def isW (a : Int) : Bool := decide (1 ≤ a ∧ a ≤ 8)
def bitsN (x f n : Nat) : Nat := x / 2 ^ f % 2 ^ n
theorem areB_nat {f n : Int} (h : areB f n = true) : ∃ a b : Nat, f = a ∧ n = b ∧ 1 ≤ b ∧ a + b ≤ 64 := by
  simp [areB] at h
  exact ⟨f.toNat, n.toNat, by omega, by omega, by omega, by omega⟩
theorem two_pow_lt64 {a : Nat} (h : a ≤ 64) : 2 ^ a ≤ 18446744073709551616 := by
  have : 2 ^ a ≤ 2 ^ 64 := Nat.pow_le_pow_right (by omega) h
  simpa using this
/-- A number's lowest bits, one more. -/
theorem mod_succ (x i : Nat) : x % 2 ^ (i + 1) = x % 2 ^ i + x / 2 ^ i % 2 * 2 ^ i := by
  rw [Nat.pow_succ, Nat.mod_mul, Nat.mul_comm (2 ^ i)]
theorem div_succ (x i : Nat) : x / 2 ^ i / 2 = x / 2 ^ (i + 1) := by rw [Nat.div_div_eq_div_mul, Nat.pow_succ]
/-! Bytes. -/
/-- so many bytes of some, from one on -/
def seg (l : List UInt8) (at_ n : Nat) : List UInt8 := (l.drop at_).take n
theorem seg_length (l : List UInt8) (a n : Nat) (h : a + n ≤ l.length) : (seg l a n).length = n := by simp [seg]; omega
theorem seg_snoc (l : List UInt8) (a k : Nat) (h : a + k < l.length) : seg l a (k + 1) = seg l a k ++ [l[a + k]] := by
  unfold seg
  rw [List.take_succ_eq_append_getElem (by simp; omega)]
  simp
theorem seg_zero (l : List UInt8) (a : Nat) : seg l a 0 = [] := by simp [seg]
end Go.Proofs.YtfakboehmcimpaaGreat

namespace Go.Proofs.YtfakboehmcimpaaGreat
/-! All that the texts behind this one stand on. -/
end Go.Proofs.YtfakboehmcimpaaGreat

namespace Go.Proofs.YtfakboehmcimpaaGreat
open Go.ChangeShapes Go.WideShapes Go.ChangeAt Go.RowKit
set_option linter.unusedVariables false
set_option maxRecDepth 4000
set_option linter.unusedSimpArgs false
/-! Bytes in memory. -/
def bv (l : List UInt8) : List Value := l.map fun b => Value.int .u8 (b.toNat : Int)
theorem bv_length (l : List UInt8) : (bv l).length = l.length := by simp [bv]
theorem bv_append (l m : List UInt8) : bv (l ++ m) = bv l ++ bv m := by simp [bv]
theorem bv_get_lt (l : List UInt8) (j : Nat) (h : j < l.length) : (bv l)[j]? = some (.int .u8 (l[j].toNat : Int)) := by simp [bv, h]
theorem bv_one (l : List UInt8) : ∀ u ∈ bv l, u.oneCell' = true := by
  intro u hu
  obtain ⟨b, _, rfl⟩ := List.mem_map.1 hu
  rfl
theorem bv_set (l : List UInt8) (j : Nat) (b : UInt8) : bv (l.set j b) = (bv l).set j (.int .u8 (b.toNat : Int)) := by simp [bv]
theorem bv_replicate (n : Nat) : bv (List.replicate n 0) = List.replicate n (.int .u8 0) := by simp [bv]
/-- the slice v reads as the bytes l -/
def Bs (w : World) (v : Value) (l : List UInt8) : Prop :=
  l.length ≤ maxLen ∧ ∃ a cap, v = .slice a l.length cap ∧ l.length ≤ cap ∧ (l = [] ∨ ∃ b off, a = some ⟨b, off, none⟩ ∧ ∀ j (hj : j < l.length), w.cell? ⟨b, off + j, none⟩ = some (.int .u8 (l[j].toNat : Int)))
theorem Bs.nil (w : World) : Bs w (.slice none 0 0) [] := ⟨by simp, none, 0, rfl, Nat.le_refl _, .inl rfl⟩
theorem Bs.of_owns {w : World} {base : Nat} {e : TypeId} {v : Value} {n : Nat} {l : List UInt8} (h : w.ownsRow base e 1 v n (bv l)) : Bs w v l ∧ n = l.length := by
  have hn : n = l.length := by have := h.1; rw [bv_length] at this; omega
  subst hn
  refine ⟨?_, rfl⟩
  rcases h.2 with ⟨rfl, h0⟩ | ⟨g, cap, cur, rfl, hb, hg, hc, hm, hs, ht⟩
  · have : l = [] := List.eq_nil_of_length_eq_zero h0
    subst this
    exact Bs.nil w
  · refine ⟨Nat.le_trans hc hm, some ⟨g, 0, none⟩, cap, rfl, hc, .inr ⟨g, 0, rfl, fun j hj => ?_⟩⟩
    have := h.cellAt j (by omega)
    rw [Nat.zero_add, this, bv_get_lt l j hj]
theorem Bs.cellsOf {w : World} {v : Value} {l : List UInt8} (h : Bs w v l) {w' : World} (hc : ∀ a u, w.cell? a = some u → w'.cell? a = some u) : Bs w' v l := by
  obtain ⟨hm, a, cap, rfl, hcap, h⟩ := h
  refine ⟨hm, a, cap, rfl, hcap, ?_⟩
  rcases h with h | ⟨b, off, ha, h⟩
  · exact .inl h
  · exact .inr ⟨b, off, ha, fun j hj => hc _ _ (h j hj)⟩
theorem Bs.below {w w' : World} {B : Nat} {v : Value} {l : List UInt8} (h : Bs w v l) (hb : Below B w w') (hB : w.heap.size ≤ B) : Bs w' v l :=
  h.cellsOf fun a u hu => by
    have : a.block < w.heap.size := World.block_lt_of_cell? w a hu
    rw [hb.cell (by omega)]; exact hu
theorem Bs.str {w : World} {v : Value} {l : List UInt8} (h : Bs w v l) : (convert 40 9 v).run Tryz.prog w = .ok (.string ⟨l.toArray⟩) w := by
  obtain ⟨hm, a, cap, rfl, hcap, h⟩ := h
  rcases h with rfl | ⟨b, off, rfl, h⟩
  · cases a with
    | none => exact run_convert_bytes_nil w 40 5 Tryz.underlying40 Tryz.underlying5 0 cap _ Tryz.underlying9
    | some a => exact run_convert_bytes_back w 40 9 5 a cap [] Tryz.underlying40 Tryz.underlying5 Tryz.underlying9 (fun j hj => by simp at hj)
  · exact run_convert_bytes_back w 40 9 5 ⟨b, off, none⟩ cap l Tryz.underlying40 Tryz.underlying5 Tryz.underlying9 (fun j hj => by
      have : (⟨b, off, none⟩ : Addr).add j = ⟨b, off + j, none⟩ := by unfold Addr.add; split <;> simp_all
      rw [this]; exact h j hj)
theorem Tryz.info_u8 : (Tryz.prog.info? 5).map (fun i => (i.zero, i.size, i.bytes)) = some (some (.int .u8 0), 1, 1) := by kernel_rfl
theorem Below.grown0 {w w' : World} (hg : w.grownBy w' none) : Below w.heap.size w w' := (Below.refl _ _).grown hg (Nat.le_refl _) (fun k e => by cases e)
/-- 'copy(b, s)' of a string's bytes into a row of our own, from its head. -/
theorem run_copy_str (w : World) (ty : TypeId) (g dLen dCap : Nat) (s : ByteArray) (cur : Array Value) (t : TypeId) (hg : w.heap[g]? = some (.cells cur t (0, 0))) (hfit : dLen ≤ cur.size) :
    (Builtin.copy_ #[40, 9] ty #[.slice (some ⟨g, 0, none⟩) dLen dCap, .string s]).run Tryz.prog w =
      .ok (goInt (Nat.min s.size dLen)) (w.setRow g (bv (s.data.toList.take (Nat.min s.size dLen)) ++ cur.toList.drop (Nat.min s.size dLen)).toArray) := by
  obtain ⟨i0, hi, hz0, hz1, hz2⟩ := info_parts Tryz.info_u8
  have hsl : s.data.toList.length = s.size := by rw [Array.length_toList]; rfl
  have hcl : (bv (s.data.toList.take (Nat.min s.size dLen))).length = Nat.min s.size dLen := by
    rw [bv_length, List.length_take, hsl]; exact Nat.min_eq_left (Nat.min_le_left _ _)
  have hle : Nat.min s.size dLen ≤ dLen := Nat.min_le_right _ _
  have hst := run_storeCells_at Tryz.prog g 0 t (bv (s.data.toList.take (Nat.min s.size dLen))) 0 cur w hg (by rw [hcl]; omega) (bv_one _)
  rw [hcl] at hst
  have hfc : List.take (Nat.min s.size dLen) (List.map (fun b => Value.int .u8 (b.toNat : Int)) s.data.toList) = bv (s.data.toList.take (Nat.min s.size dLen)) := by simp [bv]
  simp [Builtin.copy_, run_underlying Tryz.underlying40, Builtin.lenOf, Builtin.firstCells, sizeOf, typeInfo, hi]
  rw [hfc, hst]
  simp
theorem run_copy_str_own {w : World} (ty : TypeId) (B g n : Nat) (s : ByteArray) (l : List UInt8) (hBg : B ≤ g)
    (hown : w.ownsRow B 5 1 (.slice (some ⟨g, 0, none⟩) n n) n (bv l)) (w0 : World) (hb : Below B w0 w) :
    ∃ w', (Builtin.copy_ #[40, 9] ty #[.slice (some ⟨g, 0, none⟩) n n, .string s]).run Tryz.prog w = .ok (.int .i64 ((Nat.min s.size n : Nat) : Int)) w' ∧
      w'.ownsRow B 5 1 (.slice (some ⟨g, 0, none⟩) n n) n (bv (s.data.toList.take (Nat.min s.size n) ++ l.drop (Nat.min s.size n))) ∧ Below B w0 w' := by
  have hn : n = l.length := by have := hown.1; rw [bv_length] at this; omega
  have hle : Nat.min s.size n ≤ n := Nat.min_le_right _ _
  have hls : Nat.min s.size n ≤ s.size := Nat.min_le_left _ _
  have hsl : s.data.toList.length = s.size := by rw [Array.length_toList]; rfl
  rcases hown.2 with ⟨h', _⟩ | ⟨g', cap', cur, h', hbg, hg, hc, hm, hs, ht⟩
  · simp at h'
  · simp only [Value.slice.injEq, Option.some.injEq, Addr.mk.injEq, and_true, true_and] at h'
    obtain ⟨rfl, rfl⟩ := h'
    refine ⟨_, run_copy_str w ty g n n s cur 5 hg (by omega), ?_, below_setRow hb hBg _⟩
    have hcur : cur.toList = bv l := by rw [← ht, List.take_of_length_le (by rw [Array.length_toList, hs]; exact Nat.le_refl _)]
    refine ⟨by rw [bv_length, List.length_append, List.length_take, List.length_drop, hsl]; omega, .inr ⟨g, n, _, rfl, hbg, setRow_heap w g _ _ 5 _ hg, Nat.le_refl _, hm, ?_, ?_⟩⟩
    · rw [hcur]
      simp only [List.size_toArray, List.length_append, bv_length, List.length_take, List.length_drop, hsl]
      omega
    · rw [hcur, bv_append, List.take_of_length_le (by simp only [List.length_append, bv_length, List.length_take, List.length_drop, hsl]; omega)]
      simp [bv, List.map_drop]
theorem Bs.one (w : World) (b : UInt8) (t : TypeId) : Bs (w.alloc (.cells #[.int .u8 (b.toNat : Int)] t)) (.slice (some ⟨w.heap.size, 0, none⟩) 1 1) [b] := by
  refine ⟨by simp [maxLen], _, 1, rfl, Nat.le_refl _, .inr ⟨w.heap.size, 0, rfl, fun j hj => ?_⟩⟩
  have : j = 0 := by simp at hj; omega
  subst this
  exact cell_of_row (w.alloc (.cells #[.int .u8 (b.toNat : Int)] t)) w.heap.size 0 _ t (0, 0) (heap_alloc_new w _)
/-- 'append(a, b...)': a our own, b whatever bytes. -/
theorem wpList_append_bs {w : World} {ops : Array Oper} {rest : List Oper} {o : Oper} {a : Act} {Q : Exit → Act → World → Prop} (hgd : o.guard = none) (s x : Operand)
    (ho : o.op = .call { callee := .builtin .append, args := #[s, x], argTypes := #[40, 40] }) (B : Nat)
    (v : Value) (n : Nat) (l : List UInt8) (hs : a.eval s = v) (hown : w.ownsRow B 5 1 v n (bv l)) (u : Value) (m : List UInt8) (hx : a.eval x = u) (hu : Bs w u m)
    (hbytes : n + m.length ≤ 140737488355328) (hbase : B ≤ w.heap.size) (w0 : World) (hb : Below B w0 w)
    (h : ∀ v' w', w'.ownsRow B 5 1 v' (n + m.length) (bv (l ++ m)) → Below B w0 w' → w.grownBy w' v.ownBlock → wpList Tryz.prog ops Q rest (a.put o.dst v') w') : wpList Tryz.prog ops Q (o :: rest) a w := by
  obtain ⟨i0, hi, hz0, hz1, hz2⟩ := info_parts Tryz.info_u8
  have hB : ∀ k, v.ownBlock = some k → B ≤ k := fun k hk => (hown.lt k hk).1
  obtain ⟨hm, ad, cap, rfl, hcap, hu⟩ := hu
  cases ad with
  | none =>
    have hm0 : m = [] := by
      rcases hu with h | ⟨_, _, h, _⟩
      · exact h
      · cases h
    subst hm0
    refine wpList_plain hgd fun K hK => ?_
    have hrun : (Builtin.append_ #[40, 40] o.type #[v, .slice none 0 cap]).run Tryz.prog w = .ok v w := by
      rcases hown.2 with ⟨rfl, h0⟩ | ⟨g, c, cur, rfl, hbg, hg, hc, hmm, hsz, ht⟩
      · simp [Builtin.append_, run_underlying Tryz.underlying40, sizeOf, typeInfo, hi, Builtin.lenOf, Builtin.firstCells]
      · simp [Builtin.append_, run_underlying Tryz.underlying40, sizeOf, typeInfo, hi, Builtin.lenOf, Builtin.firstCells, hc, storeCells]
    unfold Oper.wp
    simp [execOp, ho, resolve, invoke, builtin, hs, hx, hrun, Result.andThen]
    exact hK _ _ (h v w (by simpa using hown) hb (World.grownBy.refl _ _))
  | some ad =>
    refine wpList_append_own w hgd s x 40 ho B 5 i0 (.int .u8 0) 1 1 Tryz.underlying40 hi hz0 hz1 hz2 rfl (by decide) v n (bv l) hs hown ad m.length cap (bv m) hx (by rw [bv_length]; omega) ?_ (bv_one m) (by unfold maxLen; omega) (by omega) hbase ?_
    · intro j z hz
      rcases hu with rfl | ⟨b, off, e, hc⟩
      · simp [bv] at hz
      · cases e
        have hj : j < m.length := by
          have := (List.getElem?_eq_some_iff.1 hz).1
          rwa [bv_length] at this
        have he : (⟨b, off, none⟩ : Addr).add j = ⟨b, off + j, none⟩ := by unfold Addr.add; split <;> simp_all
        rw [he, hc j hj, ← hz, bv_get_lt m j hj]
    · intro v' w' ho' hg' _
      exact h v' w' (by rw [bv_append]; exact ho') (hb.grown hg' hbase hB) hg'
end Go.Proofs.YtfakboehmcimpaaGreat

namespace Go.Proofs.YtfakboehmcimpaaGreat
open Go.ChangeShapes Go.WideShapes Go.ChangeAt Go.RowKit
open Go.ChangeMaps (open_string shut_string)
set_option linter.unusedVariables false
set_option maxRecDepth 4000
set_option linter.unusedSimpArgs false
/-! What the arguments are that come in. -/
def RInt (k : IntKind) (v : Value) : Prop := ∃ n : Int, v = .int k n ∧ (Lit.int k n).wf = true
def RArr (k : IntKind) (n : Nat) (v : Value) : Prop := ∃ zs : List Int, zs.length = n ∧ v = .agg (zs.map (Value.int k)).toArray ∧ ∀ z ∈ zs, (Lit.int k z).wf = true
section
variable {H : Type} {enc : TypeId × Value → H} {P : Program} {w : World} {r : Reach} {base : Nat} {t : TypeId} {v : Value} {d : DataW H} {p : List MemPlace}
theorem rd_int {k : IntKind} (ht : P.underlying t = some (.int k)) (hv : Value.okWide P w r base t v) (h : DataW.Trod enc P w 0 (fun _ => true) true t v d p) : RInt k v := by
  obtain ⟨n, rfl, _, _, wf⟩ := open_int ht hv h
  exact ⟨n, rfl, wf⟩
theorem rd_arr {n : Nat} {e : TypeId} {k : IntKind} (ht : P.underlying t = some (.array n e)) (he : P.underlying e = some (.int k)) (hc : P.cellsOf e = 1) (hct : P.cellsOf t = n) (hv : Value.okWide P w r base t v) (h : DataW.Trod enc P w 0 (fun _ => true) true t v d p) : RArr k n v := by
  unfold Value.okWide at hv
  rw [ht] at hv
  obtain ⟨cs, rfl, hsz, _⟩ := hv
  rw [hct] at hsz
  obtain ⟨fuel, hf⟩ := h
  obtain ⟨xs, m, _, _, hl, hxs, hall⟩ := DataW.trod_array ht hf
  have hget : ∀ i, i < n → ∃ z : Int, cs[i]? = some (.int k z) ∧ (Lit.int k z).wf = true := by
    intro i hi
    have h1 := hall i hi
    rw [hc, Nat.mul_one] at h1
    have hlt : i < cs.toList.length := by rw [Array.length_toList]; omega
    have h2 : (List.drop i (Value.agg cs).cells.toList).take 1 = [cs[i]'(by omega)] := by
      show (List.drop i cs.toList).take 1 = _
      rw [List.drop_eq_getElem_cons hlt]
      simp
    rw [h2, List.getElem?_eq_getElem (by omega)] at h1
    obtain ⟨z, e0, _, wz⟩ := DataW.trod_int he h1
    simp at e0
    exact ⟨z, by rw [Array.getElem?_eq_getElem (by omega), e0], wz⟩
  refine ⟨cs.toList.map (fun v => match v with | .int _ z => z | _ => 0), by simp [hsz], ?_, ?_⟩
  · congr 1
    apply Array.ext
    · simp
    · intro i h1 h2
      obtain ⟨z, hz, _⟩ := hget i (by omega)
      rw [Array.getElem?_eq_getElem h1] at hz
      simp at hz
      simp [hz]
  · intro z hz
    obtain ⟨v, hv, rfl⟩ := List.mem_map.1 hz
    obtain ⟨i, hi, rfl⟩ := List.mem_iff_getElem.1 hv
    rw [Array.length_toList] at hi
    obtain ⟨z, hz, wz⟩ := hget i (by omega)
    rw [Array.getElem?_eq_getElem hi] at hz
    simp at hz
    simpa [hz] using wz
end
end Go.Proofs.YtfakboehmcimpaaGreat

namespace Go.Proofs.YtfakboehmcimpaaGreat
open Go Go.RowKit
set_option linter.unusedVariables false
set_option maxRecDepth 4000
set_option linter.unusedSimpArgs false
/-! A region that draws its order, some of whose operations make memory (calls above all). One walk serves every order: operations that give the same value in every later world are taken first; any other one is taken where it alone may come up.
    'Later b w': nothing that was there in b has turned in w. -/
def Later (b w : World) : Prop := Below b.heap.size b w
theorem Later.refl (b : World) : Later b b := Below.refl _ _
theorem Later.trans {a b c : World} (h : Later a b) (k : Later b c) : Later a c := Below.trans h (Below.mono k h.size)
theorem Later.drew {a b : World} (h : Later a b) : Later a b.drew := Below.drew h
section
variable {P : Program} {ops : Array Oper} {md : Region.Mode}
/-- what is asked of an operation that is mild: one value in every later world; a call may make memory -/
def Oper.mildUpon (P : Program) (w : World) (v : Value) : Result Next → Prop
  | .ok (.value u) w' => w' = w ∧ u = v
  | .ok .skip w' => w' = w ∧ v = undef
  | .ok (.enter f args) w' => w' = w ∧ Calls P f args w (fun e w'' => e = .returned v ∧ Later w w'')
  | _ => False
def Oper.mild (P : Program) (o : Oper) (a : Act) (b : World) (next : Act → Prop) : Prop :=
  ∃ v, (∀ w, Later b w → Oper.mildUpon P w v ((execOp a.eval o).run P w)) ∧ next (a.put o.dst v)
/-- what is asked of an operation that is loud: whatever value, in a later world -/
def Oper.loudUpon (P : Program) (o : Oper) (a : Act) (w : World) (K : Act → World → Prop) : Result Next → Prop
  | .ok (.value u) w' => Later w w' ∧ K (a.put o.dst u) w'
  | .ok .skip w' => Later w w' ∧ K (a.put o.dst undef) w'
  | .ok (.enter f args) w' => w' = w ∧ Calls P f args w (fun e w'' => ∃ u, e = .returned u ∧ Later w w'' ∧ K (a.put o.dst u) w'')
  | _ => False
def Oper.loud (P : Program) (o : Oper) (a : Act) (w : World) (K : Act → World → Prop) : Prop := Oper.loudUpon P o a w K ((execOp a.eval o).run P w)
def lOp (P : Program) (ops : Array Oper) (i : Nat) (K : Act → World → Prop) (a : Act) (w : World) : Prop :=
  match ops[i]? with
  | none => False
  | some o => if Region.wanted o (yielded ops a.tmps) then Oper.loud P o a w K else K (a.put o.dst undef) w
theorem Oper.loudUpon_mono {o : Oper} {a : Act} {w : World} {K K' : Act → World → Prop} (h : ∀ a w', Later w w' → K a w' → K' a w') : ∀ r, Oper.loudUpon P o a w K r → Oper.loudUpon P o a w K' r
  | .ok (.value u) w', hh => ⟨hh.1, h _ _ hh.1 hh.2⟩
  | .ok .skip w', hh => ⟨hh.1, h _ _ hh.1 hh.2⟩
  | .ok (.enter f args) w', hh => ⟨hh.1, hh.2.mono fun e w'' ⟨u, he, hl, hk⟩ => ⟨u, he, hl, h _ _ hl hk⟩⟩
  | .ok (.defer _) _, hh => hh.elim
  | .ok (.row _ _) _, hh => hh.elim
  | .halt _ _, hh => hh.elim
theorem lOp_mono {i : Nat} {a : Act} {w : World} {K K' : Act → World → Prop} (h : ∀ a w', Later w w' → K a w' → K' a w') (hh : lOp P ops i K a w) : lOp P ops i K' a w := by
  unfold lOp at *
  split
  · rename_i ho; simp [ho] at hh
  · rename_i o ho
    simp only [ho] at hh
    split
    · rename_i hw; simp only [hw, if_true] at hh; exact Oper.loudUpon_mono h _ hh
    · rename_i hw; simp only [hw] at hh; exact h _ _ (Later.refl _) hh
/-- whatever order is picked from here on, in whatever later world -/
def wpE (P : Program) (md : Region.Mode) (ops : Array Oper) (Q : Act → World → Prop) : Nat → Array Bool → Act → World → Prop
  | 0, listed, a, b => Region.ready md ops listed = [] ∧ ∀ w, Later b w → Q a w
  | n + 1, listed, a, b => ∀ w, Later b w → (Region.ready md ops listed = [] → Q a w) ∧ ∀ i ∈ Region.ready md ops listed, lOp P ops i (fun a' w' => wpE P md ops Q n (listed.setIfInBounds i true) a' w') a w
theorem wpE_base {Q : Act → World → Prop} {b c : World} (hl : Later b c) : ∀ (n : Nat) (listed : Array Bool) (a : Act), wpE P md ops Q n listed a b → wpE P md ops Q n listed a c
  | 0, _, _, h => ⟨h.1, fun w hw => h.2 w (hl.trans hw)⟩
  | _ + 1, _, _, h => fun w hw => h w (hl.trans hw)
theorem wpOp_of_lOp {Q' : Exit → Act → World → Prop} {i : Nat} {a : Act} {w : World} {K : Act → World → Prop} (h : lOp P ops i K a w) : wpOp P ops Q' i K a w := by
  unfold lOp at h
  unfold wpOp
  split
  · rename_i ho; simp [ho] at h
  · rename_i o ho
    simp only [ho] at h
    split
    · rename_i hw
      simp only [hw, if_true] at h
      refine .inl ?_
      unfold Oper.loud at h
      unfold Go.Oper.wp
      generalize (execOp a.eval o).run P w = r at *
      cases r with
      | ok n w' =>
        cases n <;> simp only [Oper.loudUpon] at h <;> simp only [Go.Oper.upon]
        case value u => exact h.2
        case skip => exact h.2
        case enter f args =>
          obtain ⟨rfl, hc⟩ := h
          exact hc.mono fun e w'' ⟨u, he, _, hk⟩ => by subst he; exact hk
      | halt x w' => simp only [Oper.loudUpon] at h
    · rename_i hw; simp only [hw] at h; exact h
theorem wpAny_of_wpE {Q : Act → World → Prop} {Q' : Exit → Act → World → Prop} (hQ : ∀ a w, Q a w → Q' .normal a w) : ∀ (n : Nat) (listed : Array Bool) (a : Act) (w : World), wpE P md ops Q n listed a w → wpAny P md ops Q' n listed a w
  | 0, _, _, w, h => ⟨h.1, hQ _ _ (h.2 w (Later.refl _))⟩
  | n + 1, _, _, w, h => ⟨fun h0 => hQ _ _ ((h w (Later.refl _)).1 h0), fun i hi => wpOp_mono (fun a' w' h' => wpAny_of_wpE hQ n _ a' w' h') (wpOp_of_lOp ((h w (Later.refl _)).2 i hi))⟩
/-- in state a, in every world later than b, o gives v -/
def Gives (P : Program) (ops : Array Oper) (b : World) (o : Oper) (v : Value) (a : Act) : Prop :=
  (Region.wanted o (yielded ops a.tmps) = true ∧ ∀ w, Later b w → Oper.mildUpon P w v ((execOp a.eval o).run P w)) ∨
  (Region.wanted o (yielded ops a.tmps) = false ∧ v = undef)
theorem Gives.later {b c : World} {o : Oper} {v : Value} {a : Act} (h : Gives P ops b o v a) (hl : Later b c) : Gives P ops c o v a := by
  rcases h with ⟨h1, h2⟩ | h
  · exact .inl ⟨h1, fun w hw => h2 w (hl.trans hw)⟩
  · exact .inr h
theorem Gives.of_same {b : World} {o : Oper} {v : Value} {a a' : Act} (hy : Gives P ops b o v a) (he : execOp a'.eval o = execOp a.eval o)
    (hw : Region.wanted o (yielded ops a'.tmps) = Region.wanted o (yielded ops a.tmps)) : Gives P ops b o v a' := by
  unfold Gives at *
  rw [he, hw]
  exact hy
theorem Gives.lOp {b w : World} {i : Nat} {o : Oper} {v : Value} {a : Act} (hi : ops[i]? = some o) (hy : Gives P ops b o v a) (hw : Later b w) {K : Act → World → Prop} (h : ∀ w', Later w w' → K (a.put o.dst v) w') : lOp P ops i K a w := by
  unfold Go.Proofs.YtfakboehmcimpaaGreat.lOp
  simp only [hi]
  rcases hy with ⟨hwt, hv⟩ | ⟨hwt, rfl⟩
  · simp only [hwt, if_true]
    have hv := hv w hw
    unfold Oper.loud
    generalize (execOp a.eval o).run P w = r at *
    cases r with
    | ok n w' =>
      cases n <;> simp only [Oper.mildUpon] at hv <;> simp only [Oper.loudUpon]
      case value u => obtain ⟨rfl, rfl⟩ := hv; exact ⟨Later.refl _, h _ (Later.refl _)⟩
      case skip => obtain ⟨rfl, rfl⟩ := hv; exact ⟨Later.refl _, h _ (Later.refl _)⟩
      case enter f args => exact ⟨hv.1, hv.2.mono fun e w'' ⟨he, hl⟩ => ⟨v, he, hl, h _ hl⟩⟩
    | halt x w' => simp only [Oper.mildUpon] at hv
  · simp only [hwt, Bool.false_eq_true, if_false]; exact h _ (Later.refl _)
theorem lOp_put {b w : World} {j : Nat} {oi oj : Oper} {v : Value} (hj : ops[j]? = some oj) (hap : oi.apart ops oj = true)
    (hsi : ∀ cs d, oi.op ≠ .select cs d) (hsj : ∀ cs d, oj.op ≠ .select cs d) {K : Act → World → Prop} {a : Act}
    (hy : Gives P ops b oi v a) (h : lOp P ops j K (a.put oi.dst v) w) :
    lOp P ops j (fun a' w' => Gives P ops b oi v a' ∧ K (a'.put oi.dst v) w') a w := by
  obtain ⟨h1, h2, h3⟩ := Oper.apart_spec hap
  have keep : ∀ u, Gives P ops b oi v (a.put oj.dst u) := fun u => hy.of_same (execOp_put oi hsi a oj.dst u h3) (wanted_put oi a oj.dst u h3)
  unfold Go.Proofs.YtfakboehmcimpaaGreat.lOp at *
  simp only [hj] at *
  rw [wanted_put oj a oi.dst v h1] at h
  split
  · rename_i hw
    simp only [hw, if_true] at h
    unfold Oper.loud at *
    rw [execOp_put oj hsj a oi.dst v h1] at h
    generalize (execOp a.eval oj).run P w = r at *
    cases r with
    | ok n w' =>
      cases n <;> simp only [Oper.loudUpon] at h ⊢
      case value u => exact ⟨h.1, keep u, by rw [← Act.put_comm a v u h2]; exact h.2⟩
      case skip => exact ⟨h.1, keep _, by rw [← Act.put_comm a v undef h2]; exact h.2⟩
      case enter f args => exact ⟨h.1, h.2.mono fun e w'' ⟨u, he, hl, hk⟩ => ⟨u, he, hl, keep u, by rw [← Act.put_comm a v u h2]; exact hk⟩⟩
    | halt x w' => simp only [Oper.loudUpon] at h
  · rename_i hw
    simp only [hw] at h
    exact ⟨keep _, by rw [← Act.put_comm a v undef h2]; exact h⟩
theorem wpE_first {Q : Act → World → Prop} {i : Nat} {oi : Oper} {v : Value} (hi : ops[i]? = some oi) (hsel : ∀ (j : Nat) (o : Oper) cs d, ops[j]? = some o → o.op ≠ .select cs d) :
    ∀ (n : Nat) (listed : Array Bool) (a : Act) (b : World),
      (∀ j oj, ops[j]? = some oj → j ≠ i → listed.getD j true = false → (∀ e ∈ oj.after, Region.binds md e = true → e.on ≠ i) → oi.apart ops oj = true) →
      i ∈ Region.ready md ops listed → Gives P ops b oi v a →
      wpE P md ops Q n (listed.setIfInBounds i true) (a.put oi.dst v) b → wpE P md ops Q (n + 1) listed a b := by
  intro n
  induction n with
  | zero =>
    intro listed a b _ hr hy H w hw
    refine ⟨fun h => (by rw [h] at hr; cases hr), fun j hj => ?_⟩
    by_cases hji : j = i
    · subst hji; exact hy.lOp hi hw fun w' hw' => wpE_base (hw.trans hw') 0 _ _ H
    · have := ready_mono hj hji
      rw [H.1] at this
      cases this
  | succ n ih =>
    intro listed a b hfree hr hy H w hw
    refine ⟨fun h => (by rw [h] at hr; cases hr), fun j hj => ?_⟩
    by_cases hji : j = i
    · subst hji; exact hy.lOp hi hw fun w' hw' => wpE_base (hw.trans hw') (n + 1) _ _ H
    · have h1 := (H w hw).2 j (ready_mono hj hji)
      obtain ⟨hjun, oj, hoj, hall⟩ := mem_ready.1 hj
      have hnot : ∀ e ∈ oj.after, Region.binds md e = true → e.on ≠ i := fun e he hb heq => by
        have h1 := hall e he hb
        have h0 := (mem_ready.1 hr).1
        rw [heq] at h1
        rcases Nat.lt_or_ge i listed.size with h' | h'
        · simp [h'] at h0 h1; rw [h0] at h1; cases h1
        · simp [Array.getElem?_eq_none h'] at h1
      have h2 := lOp_put hoj (hfree j oj hoj hji hjun hnot) (fun cs d => hsel i oi cs d hi) (fun cs d => hsel j oj cs d hoj) hy h1
      have hfree' : ∀ k ok, ops[k]? = some ok → k ≠ i → (listed.setIfInBounds j true).getD k true = false →
          (∀ e ∈ ok.after, Region.binds md e = true → e.on ≠ i) → oi.apart ops ok = true := fun k ok hk hki hun hno => by
        refine hfree k ok hk hki ?_ hno
        by_cases hjk : j = k
        · subst hjk; exact hjun
        · rw [getD_set_ne true hjk] at hun; exact hun
      refine lOp_mono (fun a' w' hl h3 => ih (listed.setIfInBounds j true) a' w' hfree' (ready_mono hr (Ne.symm hji)) (h3.1.later (hw.trans hl)) ?_) h2
      rw [Array.setIfInBounds_comm _ _ hji]
      exact h3.2
/-- the walk along one order: false: mild; true: loud -/
def wpS (P : Program) (ops : Array Oper) (Q : Act → World → Prop) : List (Nat × Bool) → Act → World → Prop
  | [], a, b => ∀ w, Later b w → Q a w
  | (i, false) :: σ, a, b => ∃ o, ops[i]? = some o ∧ if Region.wanted o (yielded ops a.tmps) then Oper.mild P o a b (fun a' => wpS P ops Q σ a' b) else wpS P ops Q σ (a.put o.dst undef) b
  | (i, true) :: σ, a, b => ∀ w, Later b w → lOp P ops i (fun a' w' => wpS P ops Q σ a' w') a w
/-- may the order be walked so? -/
def schedB (md : Region.Mode) (ops : Array Oper) : List (Nat × Bool) → Array Bool → Bool
  | [], listed => (Region.ready md ops listed).isEmpty
  | (i, false) :: σ, listed => (Region.ready md ops listed).contains i && Region.free md ops listed i && schedB md ops σ (listed.setIfInBounds i true)
  | (i, true) :: σ, listed => (Region.ready md ops listed == [i]) && schedB md ops σ (listed.setIfInBounds i true)
theorem wpE_of_wpS {Q : Act → World → Prop} (hs : Region.noSelect ops = true) : ∀ (σ : List (Nat × Bool)) (listed : Array Bool) (a : Act) (b : World), schedB md ops σ listed = true → wpS P ops Q σ a b → wpE P md ops Q σ.length listed a b
  | [], listed, a, b, hB, h => ⟨by simpa [schedB] using hB, h⟩
  | (i, false) :: σ, listed, a, b, hB, h => by
    simp only [schedB, Bool.and_eq_true] at hB
    obtain ⟨o, ho, h⟩ := h
    by_cases hw : Region.wanted o (yielded ops a.tmps) = true
    · simp only [hw, if_true] at h
      obtain ⟨v, hv, hk⟩ := h
      exact wpE_first ho (Region.noSelect_spec hs) σ.length listed a b (Region.free_spec ho hB.1.2) (by simpa using hB.1.1) (.inl ⟨hw, hv⟩) (wpE_of_wpS hs σ _ _ _ hB.2 hk)
    · simp only [hw] at h
      exact wpE_first ho (Region.noSelect_spec hs) σ.length listed a b (Region.free_spec ho hB.1.2) (by simpa using hB.1.1) (.inr ⟨by simpa using hw, rfl⟩) (wpE_of_wpS hs σ _ _ _ hB.2 h)
  | (i, true) :: σ, listed, a, b, hB, h => by
    simp only [schedB, Bool.and_eq_true, beq_iff_eq] at hB
    intro w hw
    refine ⟨fun h0 => (by rw [hB.1] at h0; cases h0), fun j hj => ?_⟩
    rw [hB.1] at hj
    simp at hj
    subst hj
    exact lOp_mono (fun a' w' _ h' => wpE_of_wpS hs σ _ a' w' hB.2 h') (h w hw)
/-- ONE WALK SERVES EVERY ORDER. -/
theorem wp_region_sched {id : Nat} {Q : Exit → Act → World → Prop} {a : Act} {w : World} {l : List Oper} (σ : List (Nat × Bool)) (hm : P.follows .mixedOrders = true) (hs : Region.noSelect l.toArray = true) (hn : (σ.length == l.length) = true)
    (hB : schedB .any l.toArray σ (Array.replicate l.length false) = true)
    (h : wpS P l.toArray (fun a' w' => Q .normal a' w') σ a w.drew) : (Code.region id l.toArray true).wp P Q a w := by
  refine wp_region_any hm ?_
  have h1 := wpE_of_wpS (md := .any) hs σ _ a _ hB h
  have h2 := wpAny_of_wpE (Q' := Q) (fun _ _ h => h) _ _ _ _ h1
  have e : l.toArray.size = σ.length := by simp at hn; simp [hn]
  rw [e]
  have e2 : l.length = σ.length := by simp at hn; exact hn.symm
  rw [e2] at h2
  exact h2
/-- a world later than b -/
def rg (b : World) (p : Regrown) : World := Sort.grow (redrawn b p.d) p.os
theorem later_rg (b : World) (p : Regrown) : Later b (rg b p) := below_regrown b p.d p.os
theorem rg_of_later {b w : World} (h : Later b w) : ∃ p : Regrown, w = rg b p := regrown_of_below h
/-- one value in every later world -/
def Oper.mildG (P : Program) (o : Oper) (a : Act) (b : World) (next : Act → Prop) : Prop :=
  ∃ v, (∀ p : Regrown, Oper.mildUpon P (rg b p) v ((execOp a.eval o).run P (rg b p))) ∧ next (a.put o.dst v)
theorem Oper.mild_of_mildG {o : Oper} {a : Act} {b : World} {K : Act → Prop} (h : Oper.mildG P o a b K) : Oper.mild P o a b K := by
  obtain ⟨v, h1, h2⟩ := h
  exact ⟨v, fun w hw => by obtain ⟨p, rfl⟩ := rg_of_later hw; exact h1 p, h2⟩
theorem wpS_mild {Q : Act → World → Prop} {i : Nat} {o : Oper} {σ : List (Nat × Bool)} {a : Act} {b : World} (ho : ops[i]? = some o)
    (h : ∀ K : Act → Prop, (∀ a', wpS P ops Q σ a' b → K a') → if Region.wanted o (yielded ops a.tmps) then Oper.mildG P o a b K else K (a.put o.dst undef)) : wpS P ops Q ((i, false) :: σ) a b := by
  refine ⟨o, ho, ?_⟩
  have := h _ (fun _ h => h)
  split
  · rename_i hw; rw [if_pos hw] at this; exact Oper.mild_of_mildG this
  · rename_i hw; rw [if_neg hw] at this; exact this
theorem wpS_nil {Q : Act → World → Prop} {a : Act} {b : World} (h : ∀ w, Later b w → Q a w) : wpS P ops Q [] a b := h
end
attribute [go_sem] Oper.mildG Oper.mildUpon Oper.loud Oper.loudUpon
end Go.Proofs.YtfakboehmcimpaaGreat
