import Derived.Lib.ConvBytes
import Derived.Deep.OwnRows
import Derived.Test.YtoflkbilkkfekaaMAG
import Derived.Test.YtoflkbilkkfekaaMAB
import Derived.Test.YtoflkbilkkfekaaMAD
namespace Go.Proofs.Ytoflkbilkkfekaa
open Go.ChangeShapes Go.WideShapes Go.ChangeAt Go.RowKit
set_option linter.unusedVariables false
set_option linter.unusedSimpArgs false

/-! Senses: key, code, qualifier. -/
abbrev Sns := Int × Int × Int
abbrev sc (s : Sns) : List Value := [.int .i64 s.1, .int .i64 s.2.1, .int .i64 s.2.2]
abbrev sval (s : Sns) : Value := .agg #[.int .i64 s.1, .int .i64 s.2.1, .int .i64 s.2.2]
def sv (L : List Sns) : List Value := L.flatMap sc
def OkS (s : Sns) : Prop := (-9223372036854775808 ≤ s.1 ∧ s.1 ≤ 9223372036854775807) ∧ (-9223372036854775808 ≤ s.2.1 ∧ s.2.1 ≤ 9223372036854775807) ∧ (-9223372036854775808 ≤ s.2.2 ∧ s.2.2 ≤ 9223372036854775807)
theorem sv_nil : sv [] = [] := rfl
theorem sv_cons (s : Sns) (L : List Sns) : sv (s :: L) = sc s ++ sv L := by simp [sv]
theorem sv_append (L M : List Sns) : sv (L ++ M) = sv L ++ sv M := by simp [sv]
theorem sv_single (s : Sns) : sv [s] = [.int .i64 s.1, .int .i64 s.2.1, .int .i64 s.2.2] := by simp [sv, sc]
theorem sv_length (L : List Sns) : (sv L).length = L.length * 3 := by
  induction L with
  | nil => rfl
  | cons x L ih => rw [sv_cons, List.length_append, ih]; simp [sc]; omega
theorem sv_drop : ∀ (L : List Sns) (k : Nat), (sv L).drop (k * 3) = sv (L.drop k)
  | L, 0 => by simp
  | [], k + 1 => by simp [sv]
  | x :: L, k + 1 => by
    rw [sv_cons, List.drop_succ_cons, ← sv_drop L k, List.drop_append, List.drop_of_length_le (by simp [sc]; omega), List.nil_append]
    congr 1; simp [sc]; omega
theorem sv_take : ∀ (L : List Sns) (k : Nat), (sv L).take (k * 3) = sv (L.take k)
  | L, 0 => by simp [sv]
  | [], k + 1 => by simp [sv]
  | x :: L, k + 1 => by
    rw [sv_cons, List.take_succ_cons, sv_cons, ← sv_take L k, List.take_append, List.take_of_length_le (by simp [sc]; omega)]
    congr 2; simp [sc]; omega
theorem sv_at (L : List Sns) (k : Nat) (hk : k < L.length) : (sv L)[k * 3]? = some (.int .i64 L[k].1) ∧ (sv L)[k * 3 + 1]? = some (.int .i64 L[k].2.1) ∧ (sv L)[k * 3 + 2]? = some (.int .i64 L[k].2.2) := by
  have h : ∀ j, (sv L)[k * 3 + j]? = (sv (L.drop k))[j]? := fun j => by rw [← sv_drop, List.getElem?_drop]
  have h0 := h 0
  rw [Nat.add_zero] at h0
  rw [h0, h 1, h 2, List.drop_eq_getElem_cons hk, sv_cons]
  exact ⟨rfl, rfl, rfl⟩
theorem sv_one (L : List Sns) : ∀ u ∈ sv L, u.oneCell' = true := by
  intro u hu
  simp only [sv, List.mem_flatMap, sc] at hu
  obtain ⟨d, _, hd⟩ := hu
  simp at hd
  rcases hd with rfl | rfl | rfl <;> rfl
theorem map_three {α β : Type} {f : α → β} {l : List α} {x y z : β} (h : l.map f = [x, y, z]) : ∃ a b c, l = [a, b, c] ∧ f a = x ∧ f b = y ∧ f c = z := by
  match l, h with
  | [a, b, c], h => simp at h; exact ⟨a, b, c, rfl, h.1, h.2.1, h.2.2⟩
  | [_], h => simp at h
  | [_, _], h => simp at h
  | _ :: _ :: _ :: _ :: _, h => simp at h
theorem eqFields_three {P : Program} (w : World) (d : Nat) (xs ys : Array Value) (f g h : Field) (hf : f.name ≠ "_") (hg : g.name ≠ "_") (hh : h.name ≠ "_") (a b a' b' a2 b2 : Value) (r r' r2 : Bool)
    (p1 : (part f.type xs f.offset).run P w = .ok a w) (p2 : (part f.type ys f.offset).run P w = .ok b w) (p3 : (Op.equalIn d f.type a b).run P w = .ok r w)
    (q1 : (part g.type xs g.offset).run P w = .ok a' w) (q2 : (part g.type ys g.offset).run P w = .ok b' w) (q3 : (Op.equalIn d g.type a' b').run P w = .ok r' w)
    (s1 : (part h.type xs h.offset).run P w = .ok a2 w) (s2 : (part h.type ys h.offset).run P w = .ok b2 w) (s3 : (Op.equalIn d h.type a2 b2).run P w = .ok r2 w) :
    (Op.eqFields d xs ys [f, g, h]).run P w = .ok (r && (r' && r2)) w := by
  simp only [Op.eqFields, hf, hg, hh, ne_eq, not_false_eq_true, if_true, Sem.run_bind, p1, p2, p3, q1, q2, q3, s1, s2, s3, Result.andThen_ok]
  cases r <;> cases r' <;> cases r2 <;> simp [Sem.run_bind, q1, q2, q3, s1, s2, s3, Result.andThen_ok]
theorem part_cell {P : Program} {t : TypeId} (w : World) (ht : P.underlying t = some (.int .i64)) (cs : Array Value) (o : Nat) (v : Value) (h : cs[o]? = some v) : (part t cs o).run P w = .ok v w := by
  simp [part, isAgg, run_underlying ht, h]
section
variable {H : Type} {enc : TypeId × Value → H} {w : World} {r : Reach} {base : Nat} {v : Value} {d : DataW H} {p : List MemPlace}
def RSense (v : Value) : Prop := ∃ s : Sns, OkS s ∧ v = sval s
theorem sv_flatten : ∀ css : List (List Value), (∀ cs ∈ css, ∃ s : Sns, OkS s ∧ cs = sc s) → ∃ L : List Sns, L.length = css.length ∧ (∀ s ∈ L, OkS s) ∧ css.flatten = sv L
  | [], _ => ⟨[], rfl, (fun d hd => by cases hd), rfl⟩
  | c :: css, h => by
    obtain ⟨X, hX, rfl⟩ := h c (by simp)
    obtain ⟨D, h1, h2, h3⟩ := sv_flatten css (fun cs hcs => h cs (by simp [hcs]))
    refine ⟨X :: D, by simp [h1], fun d hd => ?_, by rw [List.flatten_cons, h3, sv_cons]⟩
    rcases List.mem_cons.1 hd with rfl | hd
    · exact hX
    · exact h2 d hd
def Sl (w : World) (v : Value) (L : List Sns) : Prop := Rw 3 w v L.length (sv L) ∧ ∀ s ∈ L, OkS s
def RSenses (w : World) (v : Value) : Prop := ∃ L : List Sns, Sl w v L
end
theorem Sl.later {w w' : World} {v : Value} {L : List Sns} (h : Sl w v L) (hl : Later w w') : Sl w' v L := ⟨h.1.later hl, h.2⟩
theorem Sl.nil (w : World) : Sl w (.slice none 0 0) [] := ⟨Rw.nil 3 w, fun s hs => by cases hs⟩
theorem sc_one (s : Sns) : ∀ u ∈ sc s, u.oneCell' = true := by
  intro u hu
  simp [sc] at hu
  rcases hu with rfl | rfl | rfl <;> rfl
/-- two results, the second one in a variable of its own -/
theorem results_tmp_cell' {fn : Func} {p q : Tmp} {ty : TypeId} (h : fn.results = #[.tmp q, .cell p ty]) (tmps : Array Value) (P : Program) (w : World) (b o : Nat) (hp : tmps.getD p undef = .pointer (some ⟨b, o, none⟩)) (v u : Value) (hl : (loadVar ty ⟨b, o, none⟩).run P w = .ok v w) (hq : tmps.getD q undef = u) :
    (results fn tmps).run P w = .ok (.tuple #[u, v]) w := by
  have ha : (asAddr (tmps.getD p undef)).run P w = .ok ⟨b, o, none⟩ w := by rw [hp]; rfl
  simp only [results, h]
  simp only [List.mapM_toArray, Sem.run_bind]
  simp [ha, hl, hq, -Array.getD_eq_getD_getElem?]
end Go.Proofs.Ytoflkbilkkfekaa

namespace Go.Proofs.Ytoflkbilkkfekaa
open Go.ChangeShapes Go.WideShapes Go.ChangeAt Go.RowKit
set_option linter.unusedVariables false
set_option linter.unusedSimpArgs false

/-! The document's answers for senses. -/
def b8 (x : Int) : UInt8 := UInt8.ofNat (x % 256).toNat
theorem b8_nat (x : Int) : ((b8 x).toNat : Int) = x % 256 := by
  have h1 : 0 ≤ x % 256 := Int.emod_nonneg _ (by omega)
  have h2 : x % 256 < 256 := Int.emod_lt_of_pos _ (by omega)
  simp only [b8, UInt8.toNat_ofNat']
  omega
theorem b8_byte (b : UInt8) : b8 (b.toNat : Int) = b := by
  have h := b8_nat (b.toNat : Int)
  have hb : b.toNat < 256 := UInt8.toNat_lt b
  apply UInt8.toNat_inj.1
  omega
def bytesL (s : Sns) : List UInt8 := [112, 0, b8 s.1, 0, 0, 0, 0, 10, 0, 0, 0, 0, b8 s.2.1, b8 s.2.2, 0, 0, 0, 0]
theorem bytesL_length (s : Sns) : (bytesL s).length = 18 := rfl

theorem bs_of_box {w : World} {g n : Nat} {t : TypeId} {xs : List Value} {l : List UInt8} (h : Box w g t xs) (hx : xs = bv l) (hl : l.length = n) (hn : n ≤ 1000000) : Bs w (.slice (some ⟨g, 0, none⟩) n n) l := by
  subst hx
  have hr : Rw 1 w (.slice (some ⟨g, 0, none⟩) n n) n (bv l) := ⟨by rw [bv_length, hl]; omega, by unfold maxLen; omega, _, n, rfl, Nat.le_refl _, .inr ⟨g, 0, rfl, h.range⟩⟩
  exact hr.bs.1
def sAt (l : List UInt8) : Sns := ((l.getD 2 0).toNat, (l.getD 12 0).toNat, (l.getD 13 0).toNat)
def parseB (l : List UInt8) : Bool := l.length == 18 && bytesL (sAt l) == l
def parseS (l : List UInt8) : Sns := if parseB l then sAt l else (0, 0, 0)
def strOf (l : List UInt8) : ByteArray := ⟨l.toArray⟩
theorem strOf_inj {l m : List UInt8} : strOf l = strOf m ↔ l = m := by
  constructor
  · intro h
    have := congrArg (fun b : ByteArray => b.data.toList) h
    simpa [strOf] using this
  · intro h; rw [h]
theorem strOf_list (l : List UInt8) : (strOf l).toList = l := by rw [ByteArray.toList_eq]; simp [strOf]
theorem Bs.strOf {w : World} {v : Value} {l : List UInt8} (h : Bs w v l) : (convert 23 9 v).run Try.prog w = .ok (.string (strOf l)) w := h.str

end Go.Proofs.Ytoflkbilkkfekaa

namespace Go.Proofs.Ytoflkbilkkfekaa
open Go.ChangeShapes Go.WideShapes Go.ChangeAt Go.RowKit
set_option linter.unusedVariables false
set_option linter.unusedSimpArgs false

/-! The document's inquiry: Serial, first, Standard, Cut. -/
def serL (lun : Int) : List UInt8 := [82, 84, 48, 48, 48, 48, 48, UInt8.ofNat (48 + (lun % 8).toNat)]
def firstB (there : Bool) : UInt8 := if there then 0 else 127
def stdL (there : Bool) : List UInt8 := [firstB there, 128, 6, 2, 31, 0, 0, 2, 82, 69, 84, 73, 67, 85, 76, 69, 71, 65, 68, 71, 69, 84, 32, 68, 73, 83, 75, 32, 32, 32, 32, 32, 48, 48, 48, 49]
theorem bits3 (x : Nat) : bitsI x 0 3 = x % 8 := by
  unfold bitsI
  rw [if_pos (by decide)]
  simp [bitsN]
end Go.Proofs.Ytoflkbilkkfekaa

namespace Go.Proofs.Ytoflkbilkkfekaa
open Go.ChangeShapes Go.WideShapes Go.ChangeAt Go.RowKit
set_option linter.unusedVariables false
set_option linter.unusedSimpArgs false

/-! Bytes of a constant text, and of any text. -/
theorem owns_box {w : World} {g n B : Nat} {e : TypeId} {l : List UInt8} (h : Box w g e (bv l)) (hl : l.length = n) (hm : n ≤ 1000000) (hB : B ≤ g) : w.ownsRow B e 1 (.slice (some ⟨g, 0, none⟩) n n) n (bv l) :=
  ⟨by rw [bv_length]; omega, .inr ⟨g, n, (bv l).toArray, rfl, hB, h, Nat.le_refl _, by unfold maxLen; omega, by simp [bv_length]; omega, List.take_of_length_le (by simp [bv_length]; omega)⟩⟩
theorem cell_freeze (w : World) (a b : Addr) (n : Nat) : (w.freeze a n).cell? b = w.cell? b := by
  unfold World.freeze
  split
  · rfl
  · unfold World.cell?
    simp only [Array.getElem?_modify]
    by_cases h : a.block = b.block
    · rw [if_pos h]
      cases hh : w.heap[b.block]? with
      | none => rfl
      | some o => cases o <;> rfl
    · rw [if_neg h]
theorem later_freeze {w0 w : World} (h : Later w0 w) {a : Addr} (hg : w0.heap.size ≤ a.block) (n : Nat) : Later w0 (w.freeze a n) := by
  unfold World.freeze
  split
  · exact h
  · refine ⟨h.os, h.tape, h.output, by simpa using h.size, fun k hk => ?_⟩
    simp only [Array.getElem?_modify]
    rw [if_neg (by omega)]
    exact h.block k hk
theorem heap_freeze_other (w : World) (a : Addr) (n k : Nat) (h : a.block ≠ k) : (w.freeze a n).heap[k]? = w.heap[k]? := by
  unfold World.freeze
  split
  · rfl
  · simp only [Array.getElem?_modify]
    rw [if_neg h]
theorem run_conv_box {w : World} {g n c : Nat} {l : List UInt8} (hB : Box w g 5 (bv l)) : (convert 23 23 (.slice (some ⟨g, 0, none⟩) n c)).run Try.prog w = .ok (.slice (some ⟨g, 0, none⟩) n c) (w.freeze ⟨g, l.length, none⟩ 1) := by
  have hsh : w.shape? g = some (5, l.length) := by unfold World.shape?; rw [hB]; simp [bv_length]
  simp [convert, run_underlying Try.underlying23, run_underlying Try.underlying5, markStringish, hsh]
/-- '[]byte("..")': the world behind it stands by itself -/
theorem wpList_conv {w : World} {ops : Array Oper} {rest : List Oper} {o : Oper} {a : Act} {Q : Exit → Act → World → Prop} (hg : o.guard = none) (x : Operand) (hop : o.op = Op.convert 23 23 x) (g n : Nat) (l : List UInt8) (hx : a.eval x = .slice (some ⟨g, 0, none⟩) n n) (hB : Box w g 5 (bv l)) (hl : l.length = n) (hm : n ≤ 1000000)
    (h : ∀ w', Bs w' (.slice (some ⟨g, 0, none⟩) n n) l → Hid (w' = w.freeze ⟨g, l.length, none⟩ 1) → wpList Try.prog ops Q rest (a.put o.dst (.slice (some ⟨g, 0, none⟩) n n)) w') : wpList Try.prog ops Q (o :: rest) a w := by
  refine wpList_plain hg fun K hK => ?_
  have hrun := run_conv_box (n := n) (c := n) hB
  have hb : Bs (w.freeze ⟨g, l.length, none⟩ 1) (.slice (some ⟨g, 0, none⟩) n n) l := (bs_of_box hB rfl hl hm).cellsOf fun b u hu => by rw [cell_freeze]; exact hu
  unfold Go.Oper.wp
  simp [execOp, hop, hx, hrun, Result.andThen]
  exact hK _ _ (h _ hb rfl)
theorem later_bytes (w : World) (e : TypeId) (s : ByteArray) : Later w (Lib.bytesWorld w e s) := by
  unfold Lib.bytesWorld
  exact later_freeze (((Later.refl w).drew).alloc _) (Nat.le_refl _) _
theorem bs_bytes (w : World) (l : List UInt8) (hl : l.length ≤ 1000000) : Bs (Lib.bytesWorld w 5 (strOf l)) (.slice (some ⟨w.heap.size, 0, none⟩) l.length (grownCap w l.length 0 5)) l := by
  refine ⟨by unfold maxLen; omega, some ⟨w.heap.size, 0, none⟩, _, rfl, ?_, .inr ⟨w.heap.size, 0, rfl, fun j hj => ?_⟩⟩
  · exact grownCap_ge _ _ _ _
  · rw [Nat.zero_add, Lib.bytesWorld_cell w 5 (strOf l) j (by simpa [strOf, ByteArray.size] using hj)]
    simp [strOf, List.getD, hj]
end Go.Proofs.Ytoflkbilkkfekaa

namespace Go.Proofs.Ytoflkbilkkfekaa
open Go.ChangeShapes Go.WideShapes Go.ChangeAt Go.RowKit
set_option linter.unusedVariables false
set_option linter.unusedSimpArgs false

/-! Cut: the first bytes. -/
def cutL (l : List UInt8) (n : Int) : List UInt8 := if n < 0 then [] else l.take n.toNat
theorem Bs.cut7 {w : World} {a : Option Addr} {n cap : Nat} {l : List UInt8} (h : Bs w (.slice a n cap) l) (k : Nat) (hk : k ≤ n) : Bs w (.slice a k cap) (l.take k) := by
  obtain ⟨h1, ad, cap', e, h2, h3⟩ := h
  simp at e
  obtain ⟨rfl, rfl, rfl⟩ := e
  have hl : (l.take k).length = k := by simp; omega
  refine ⟨by rw [hl]; omega, a, cap, by rw [hl], by rw [hl]; omega, ?_⟩
  rcases h3 with h3 | ⟨b', off', e, h3⟩
  · exact .inl (by rw [h3]; simp)
  · refine .inr ⟨b', off', e, fun j hj => ?_⟩
    rw [hl] at hj
    rw [h3 j (by omega), List.getElem_take]
set_option maxHeartbeats 1000000 in
theorem rcut_c {v : Value} {l : List UInt8} (n : Int) (w : World) (h : Bs w v l) (hs : l.length ≤ 1000000) : Calls Try.prog 17 #[v, .int .i64 n] w fun e w' => ∃ v, e = .returned v ∧ Later w w' ∧ Bs w' v (cutL l n) := by
  have HB := hide h
  obtain ⟨hlm, ad, cap, rfl, hcap, _⟩ := h
  clear hlm
  obtain ⟨k, hk⟩ : ∃ k, k = l.length := ⟨_, rfl⟩
  rw [← hk] at HB hcap hs ⊢
  have HK := hide hk
  clear hk
  by_cases h0 : n < 0
  · have HC : Hid (cutL l n = []) := by rw [Hid, cutL, if_pos h0]
    go_enter Try.func17, Try.ntmps17
    go_wp2
    go_ret
    exact ⟨_, rfl, Later.refl _, by rw [HC.out]; exact Bs.nil _⟩
  have hb0 : decide (n < 0) = false := by simp; omega
  obtain ⟨m, rfl⟩ : ∃ m : Nat, n = m := ⟨n.toNat, by omega⟩
  by_cases h1 : k < m
  · have hb1 : decide ((k : Int) < (m : Int)) = true := by simp; omega
    have HC : Hid (cutL l (m : Int) = l.take k) := by
      rw [Hid, cutL, if_neg h0, Int.toNat_natCast, List.take_of_length_le (by have := HK.out; omega), List.take_of_length_le (by have := HK.out; omega)]
    clear h0
    have s1 : (k : Int) ≤ (cap : Int) := by omega
    go_enter Try.func17, Try.ntmps17
    have Ex : Hid ((w.alloc (.cells #[] 5)).ownsRow w.heap.size 5 1 (.slice (some ⟨w.heap.size, 0, none⟩) 0 0) 0 (bv [])) := World.ownsRow_lit w #[] 0 (Nat.le_refl _) (by simp [maxLen]) rfl
    have LEx : Hid (Below w.heap.size w (w.alloc (.cells #[] 5))) := (Below.refl _ _).alloc (Nat.le_refl _) _
    have Ax : Hid (Bs (w.alloc (.cells #[] 5)) (.slice ad k cap) (l.take k)) := (HB.out.cut7 k (Nat.le_refl _)).later LEx.out
    go_wp2_with (at_builtin; refine wpList_append_bs rfl (.tmp 13) (.tmp 16) rfl w.heap.size _ 0 [] rfl Ex.out _ (l.take k) rfl Ax.out (by simp; omega) (by simp) w LEx.out ?_)
    intro v3 w3 ho hb hg
    have V3 := hide (Bs.of_owns ho).1
    have L3 : Hid (Later w w3) := hb
    clear ho hb hg Ex LEx Ax
    go_wp2
    go_ret
    exact ⟨_, rfl, L3.out, by rw [HC.out]; exact V3.out⟩
  · have hb1 : decide ((k : Int) < (m : Int)) = false := by simp; omega
    have HC : Hid (cutL l (m : Int) = l.take m) := by
      rw [Hid, cutL, if_neg h0, Int.toNat_natCast]
    clear h0
    have s1 : (m : Int) ≤ (cap : Int) := by omega
    go_enter Try.func17, Try.ntmps17
    have Ex : Hid ((w.alloc (.cells #[] 5)).ownsRow w.heap.size 5 1 (.slice (some ⟨w.heap.size, 0, none⟩) 0 0) 0 (bv [])) := World.ownsRow_lit w #[] 0 (Nat.le_refl _) (by simp [maxLen]) rfl
    have LEx : Hid (Below w.heap.size w (w.alloc (.cells #[] 5))) := (Below.refl _ _).alloc (Nat.le_refl _) _
    have Ax : Hid (Bs (w.alloc (.cells #[] 5)) (.slice ad m cap) (l.take m)) := (HB.out.cut7 m (by omega)).later LEx.out
    go_wp2_with (at_builtin; refine wpList_append_bs rfl (.tmp 13) (.tmp 16) rfl w.heap.size _ 0 [] rfl Ex.out _ (l.take m) rfl Ax.out (by simp; omega) (by simp) w LEx.out ?_)
    intro v3 w3 ho hb hg
    have V3 := hide (Bs.of_owns ho).1
    have L3 : Hid (Later w w3) := hb
    clear ho hb hg Ex LEx Ax
    go_wp2
    go_ret
    exact ⟨_, rfl, L3.out, by rw [HC.out]; exact V3.out⟩
end Go.Proofs.Ytoflkbilkkfekaa

namespace Go.Proofs.Ytoflkbilkkfekaa
open Go.ChangeShapes Go.WideShapes Go.ChangeAt Go.RowKit
set_option linter.unusedVariables false
set_option linter.unusedSimpArgs false

/-! 'append(a, make([]byte, 52)...)', a our own. -/
theorem zerosN (n : Nat) : (Builtin.zeroCells (Value.int .u8 0).cells n).toList = bv (List.replicate n 0) := by
  rw [bv_replicate]
  simp only [Builtin.zeroCells, Value.cells]
  refine List.ext_getElem (by simp) fun i h1 h2 => ?_
  simp [Nat.mod_one]
def z52 : List UInt8 := List.replicate 52 0
theorem z52_len : z52.length = 52 := by simp [z52]
theorem zeros52 : (Builtin.zeroCells (Value.int .u8 0).cells 52).toList = bv z52 := zerosN 52
theorem zeros52' : Builtin.zeroCells (Value.int .u8 0).cells 52 = (bv z52).toArray := by rw [← zeros52]
set_option maxHeartbeats 1000000 in
theorem run_append_zeros {w : World} {B g n cap : Nat} {l : List UInt8} (ty : TypeId) (hown : w.ownsRow B 5 1 (.slice (some ⟨g, 0, none⟩) n cap) n (bv l)) (hn : n ≤ 1000000) (hbase : B ≤ w.heap.size) :
    ∃ v' w', (Builtin.append_ #[23, 3] ty #[.slice (some ⟨g, 0, none⟩) n cap, .int .i64 52]).run Try.prog w = .ok v' w' ∧ w'.ownsRow B 5 1 v' (n + 52) (bv (l ++ z52)) ∧ w.grownBy w' (some g) := by
  obtain ⟨i0, hi, hz0, hz1, hz2⟩ := info_parts Try.info_u8
  have h52 : IntKind.i64.wrap 52 = 52 := by decide
  have hai : ∀ w : World, (asInt (.int .i64 52)).run Try.prog w = .ok 52 w := fun w => rfl
  obtain ⟨hlen, h | ⟨g', cap', cur, e, hbg, hg, hnc, hcm, hcs, htake⟩⟩ := hown
  · obtain ⟨h, _⟩ := h; cases h
  simp at e
  obtain ⟨rfl, rfl⟩ := e
  rw [Nat.mul_one] at hlen hcs htake
  have hL : (bv (l ++ z52)).length = n + 52 := by rw [bv_append, List.length_append, hlen, bv_length, z52_len]
  by_cases hroom : n + 52 ≤ cap
  · have hB : Box w g 5 cur.toList := by unfold Box; rw [hg]
    have hst := run_storeCells_cells (P := Try.prog) g n (bv (z52)) 0 w (fun j hj => by rw [hB.cell]; rw [bv_length, z52_len] at hj; simp; omega) (fun j hj => hB.frozen _) (bv_one _)
    simp only [Nat.add_zero] at hst
    have hB2 := hB.setCells (bv (z52)) n (by rw [bv_length, z52_len]; simp; omega)
    refine ⟨.slice (some ⟨g, 0, none⟩) (n + 52) cap, w.setCells g n (bv (z52)), ?_, ?_, ?_⟩
    · simp [Builtin.append_, run_underlying Try.underlying23, run_underlying Try.underlying3, sizeOf, typeInfo, hi, hz0, hz1, hz2, zeroValue, hroom, Addr.add_lit, zeros52, hst, hai, h52]
    · refine ⟨by rw [hL, Nat.mul_one], .inr ⟨g, cap, _, rfl, hbg, hB2, hroom, hcm, ?_, ?_⟩⟩
      · simp [bv_length, z52_len]; omega
      · rw [Nat.mul_one, htake, ← bv_append, ← hL]
        exact List.take_left
    · have hlt := hB.lt
      exact ⟨(below_setCells (Below.refl g w) (Nat.le_refl _) _ _).os, (below_setCells (Below.refl g w) (Nat.le_refl _) _ _).tape, (below_setCells (Below.refl g w) (Nat.le_refl _) _ _).output, (below_setCells (Below.refl g w) (Nat.le_refl _) _ _).size, fun k hk hne => heap_setCells_other w g k (fun e => hne (by rw [e])) _ _⟩
  · have hn63 : ¬ (9223372036854775807 < (n : Int) + 52) := by omega
    have hfit : ¬ (281474976710656 < Builtin.nextslicecap (n + 52) cap) := by
      have := growslice_fits (need := n + 52) (old := cap) (bytes := 1) (by omega) (by omega)
      omega
    have holds : (Builtin.firstCells 1 n (.slice (some ⟨g, 0, none⟩) n cap)).run Try.prog w.drew = .ok (bv l).toArray w.drew := by
      refine run_firstCells_some w.drew 1 n ⟨g, 0, none⟩ n cap (bv l) (by rw [hlen]; omega) ?_
      intro j u hu
      have hj : j < n := by rw [← hlen]; exact (List.getElem?_eq_some_iff.1 hu).1
      have hB : Box w.drew g 5 cur.toList := by unfold Box; exact hg
      rw [show (⟨g, 0, none⟩ : Addr).add j = ⟨g, j, none⟩ from by unfold Addr.add; split <;> simp_all, hB.cell j, ← hu, ← htake, List.getElem?_take_of_lt hj]
    have hge := grownCap_ge w (n + 52) cap 5
    have hcm2 : grownCap w (n + 52) cap 5 ≤ maxLen := grownCap_le_maxLen w (n + 52) cap 5 (by unfold maxLen; omega)
    refine ⟨.slice (some ⟨w.heap.size, 0, none⟩) (n + 52) (grownCap w (n + 52) cap 5), w.drew.alloc (.cells ((bv l).toArray ++ ((bv z52).toArray ++ Builtin.zeroCells (Value.int .u8 0).cells (grownCap w (n + 52) cap 5 - (n + 52)))) 5), ?_, ?_, ?_⟩
    · simp [Builtin.append_, run_underlying Try.underlying23, run_underlying Try.underlying3, sizeOf, typeInfo, hi, hz0, hz1, hz2, zeroValue, hroom, Addr.add_lit, zeros52', hai, h52, hn63, hfit, Question.forced, holds, newRow, grownCap]
      intro h
      exfalso
      omega
    · refine ⟨by rw [hL, Nat.mul_one], .inr ⟨w.heap.size, _, _, rfl, hbase, heap_alloc_new w.drew _, hge, hcm2, ?_, ?_⟩⟩
      · simp only [Array.size_append, List.size_toArray, size_zeroCells, hlen, bv_length, z52_len]
        simp [Value.cells]
        omega
      · simp only [Array.toList_append, List.toList_toArray]
        rw [Nat.mul_one, ← List.append_assoc, ← bv_append, ← hL]
        exact List.take_left
    · exact ⟨rfl, rfl, rfl, by simp, fun k hk _ => heap_alloc_old w.drew _ hk⟩
theorem wpList_append_zeros {w : World} {ops : Array Oper} {rest : List Oper} {o : Oper} {a : Act} {Q : Exit → Act → World → Prop} (hgd : o.guard = none) (s : Operand) (ho : o.op = .call { callee := .builtin .append, args := #[s, .const (.int .i64 52)], argTypes := #[23, 3] }) (B g n cap : Nat) (l : List UInt8) (hs : a.eval s = .slice (some ⟨g, 0, none⟩) n cap) (hown : w.ownsRow B 5 1 (.slice (some ⟨g, 0, none⟩) n cap) n (bv l)) (hn : n ≤ 1000000) (hbase : B ≤ w.heap.size) (w0 : World) (hb : Below B w0 w)
    (h : ∀ v' w', w'.ownsRow B 5 1 v' (n + 52) (bv (l ++ z52)) → Below B w0 w' → wpList Try.prog ops Q rest (a.put o.dst v') w') : wpList Try.prog ops Q (o :: rest) a w := by
  refine wpList_plain hgd fun K hK => ?_
  obtain ⟨v', w', hrun, h1, h2⟩ := run_append_zeros o.type hown hn hbase
  have hbg : B ≤ g := (hown.lt g rfl).1
  unfold Go.Oper.wp execOp
  have hc : a.eval (.const (.int .i64 52)) = .int .i64 52 := rfl
  simp only [ho, resolve, invoke, builtin, Sem.run_bind, Sem.run_pure, Result.andThen_ok, List.map_toArray, List.map_cons, List.map_nil, hs, hc, hrun]
  exact hK _ _ (h v' w' h1 (hb.grown h2 hbase fun k hk => by cases hk; exact hbg))
end Go.Proofs.Ytoflkbilkkfekaa

namespace Go.Proofs.Ytoflkbilkkfekaa
open Go.ChangeShapes Go.WideShapes Go.ChangeAt Go.RowKit
set_option linter.unusedVariables false
set_option linter.unusedSimpArgs false

/-! 'append(a, make([]byte, k)...)', a our own. -/
def zs (k : Nat) : List UInt8 := List.replicate k 0
theorem zs_len (k : Nat) : (zs k).length = k := by simp [zs]
theorem zerosK (k : Nat) : (Builtin.zeroCells (Value.int .u8 0).cells k).toList = bv (zs k) := zerosN k
theorem zerosK' (k : Nat) : Builtin.zeroCells (Value.int .u8 0).cells k = (bv (zs k)).toArray := by rw [← zerosK]
set_option maxHeartbeats 1000000 in
theorem run_append_zk (k : Nat) (hk0 : 0 < k) (hk : k ≤ 1000) {w : World} {B g n cap : Nat} {l : List UInt8} (ty : TypeId) (hown : w.ownsRow B 5 1 (.slice (some ⟨g, 0, none⟩) n cap) n (bv l)) (hn : n ≤ 1000000) (hbase : B ≤ w.heap.size) :
    ∃ v' w', (Builtin.append_ #[23, 3] ty #[.slice (some ⟨g, 0, none⟩) n cap, .int .i64 (k : Int)]).run Try.prog w = .ok v' w' ∧ w'.ownsRow B 5 1 v' (n + k) (bv (l ++ (zs k))) ∧ w.grownBy w' (some g) := by
  obtain ⟨i0, hi, hz0, hz1, hz2⟩ := info_parts Try.info_u8
  have h52 : IntKind.i64.wrap (k : Int) = k := by rw [IntKind.wrap_i64]; omega
  have hkn : ¬ ((k : Int) < 0) := by omega
  have hkz : ¬ (k = 0) := by omega
  have hkb : ¬ (281474976710656 < (k : Int)) := by omega
  have hai : ∀ w : World, (asInt (.int .i64 (k : Int))).run Try.prog w = .ok (k : Int) w := fun w => rfl
  obtain ⟨hlen, h | ⟨g', cap', cur, e, hbg, hg, hnc, hcm, hcs, htake⟩⟩ := hown
  · obtain ⟨h, _⟩ := h; cases h
  simp at e
  obtain ⟨rfl, rfl⟩ := e
  rw [Nat.mul_one] at hlen hcs htake
  have hL : (bv (l ++ (zs k))).length = n + k := by rw [bv_append, List.length_append, hlen, bv_length, zs_len]
  by_cases hroom : n + k ≤ cap
  · have hB : Box w g 5 cur.toList := by unfold Box; rw [hg]
    have hst := run_storeCells_cells (P := Try.prog) g n (bv ((zs k))) 0 w (fun j hj => by rw [hB.cell]; rw [bv_length, zs_len] at hj; simp; omega) (fun j hj => hB.frozen _) (bv_one _)
    simp only [Nat.add_zero] at hst
    have hB2 := hB.setCells (bv ((zs k))) n (by rw [bv_length, zs_len]; simp; omega)
    refine ⟨.slice (some ⟨g, 0, none⟩) (n + k) cap, w.setCells g n (bv ((zs k))), ?_, ?_, ?_⟩
    · simp [Builtin.append_, run_underlying Try.underlying23, run_underlying Try.underlying3, sizeOf, typeInfo, hi, hz0, hz1, hz2, zeroValue, hroom, Addr.add_lit, zerosK, hst, hai, h52, hkn, hkz, hkb]
    · refine ⟨by rw [hL, Nat.mul_one], .inr ⟨g, cap, _, rfl, hbg, hB2, hroom, hcm, ?_, ?_⟩⟩
      · simp [bv_length, zs_len]; omega
      · rw [Nat.mul_one, htake, ← bv_append, ← hL]
        exact List.take_left
    · have hlt := hB.lt
      exact ⟨(below_setCells (Below.refl g w) (Nat.le_refl _) _ _).os, (below_setCells (Below.refl g w) (Nat.le_refl _) _ _).tape, (below_setCells (Below.refl g w) (Nat.le_refl _) _ _).output, (below_setCells (Below.refl g w) (Nat.le_refl _) _ _).size, fun k' hk' hne => heap_setCells_other w g k' (fun e => hne (by rw [e])) _ _⟩
  · have hn63 : ¬ (9223372036854775807 < (n : Int) + k) := by omega
    have hfit : ¬ (281474976710656 < Builtin.nextslicecap (n + k) cap) := by
      have := growslice_fits (need := n + k) (old := cap) (bytes := 1) (by omega) (by omega)
      omega
    have holds : (Builtin.firstCells 1 n (.slice (some ⟨g, 0, none⟩) n cap)).run Try.prog w.drew = .ok (bv l).toArray w.drew := by
      refine run_firstCells_some w.drew 1 n ⟨g, 0, none⟩ n cap (bv l) (by rw [hlen]; omega) ?_
      intro j u hu
      have hj : j < n := by rw [← hlen]; exact (List.getElem?_eq_some_iff.1 hu).1
      have hB : Box w.drew g 5 cur.toList := by unfold Box; exact hg
      rw [show (⟨g, 0, none⟩ : Addr).add j = ⟨g, j, none⟩ from by unfold Addr.add; split <;> simp_all, hB.cell j, ← hu, ← htake, List.getElem?_take_of_lt hj]
    have hge := grownCap_ge w (n + k) cap 5
    have hcm2 : grownCap w (n + k) cap 5 ≤ maxLen := grownCap_le_maxLen w (n + k) cap 5 (by unfold maxLen; omega)
    refine ⟨.slice (some ⟨w.heap.size, 0, none⟩) (n + k) (grownCap w (n + k) cap 5), w.drew.alloc (.cells ((bv l).toArray ++ ((bv (zs k)).toArray ++ Builtin.zeroCells (Value.int .u8 0).cells (grownCap w (n + k) cap 5 - (n + k)))) 5), ?_, ?_, ?_⟩
    · simp [Builtin.append_, run_underlying Try.underlying23, run_underlying Try.underlying3, sizeOf, typeInfo, hi, hz0, hz1, hz2, zeroValue, hroom, Addr.add_lit, zerosK', hai, h52, hkn, hkz, hkb, hn63, hfit, Question.forced, holds, newRow, grownCap]
    · refine ⟨by rw [hL, Nat.mul_one], .inr ⟨w.heap.size, _, _, rfl, hbase, heap_alloc_new w.drew _, hge, hcm2, ?_, ?_⟩⟩
      · simp only [Array.size_append, List.size_toArray, size_zeroCells, hlen, bv_length, zs_len]
        simp [Value.cells]
        omega
      · simp only [Array.toList_append, List.toList_toArray]
        rw [Nat.mul_one, ← List.append_assoc, ← bv_append, ← hL]
        exact List.take_left
    · exact ⟨rfl, rfl, rfl, by simp, fun k' hk' _ => heap_alloc_old w.drew _ hk'⟩
theorem wpList_append_zk (k : Nat) (hk0 : 0 < k) (hk9 : k ≤ 1000) {w : World} {ops : Array Oper} {rest : List Oper} {o : Oper} {a : Act} {Q : Exit → Act → World → Prop} (hgd : o.guard = none) (s : Operand) (ho : o.op = .call { callee := .builtin .append, args := #[s, .const (.int .i64 (k : Int))], argTypes := #[23, 3] }) (B g n cap : Nat) (l : List UInt8) (hs : a.eval s = .slice (some ⟨g, 0, none⟩) n cap) (hown : w.ownsRow B 5 1 (.slice (some ⟨g, 0, none⟩) n cap) n (bv l)) (hn : n ≤ 1000000) (hbase : B ≤ w.heap.size) (w0 : World) (hb : Below B w0 w)
    (h : ∀ v' w', w'.ownsRow B 5 1 v' (n + k) (bv (l ++ (zs k))) → Below B w0 w' → wpList Try.prog ops Q rest (a.put o.dst v') w') : wpList Try.prog ops Q (o :: rest) a w := by
  refine wpList_plain hgd fun K hK => ?_
  obtain ⟨v', w', hrun, h1, h2⟩ := run_append_zk k hk0 hk9 o.type hown hn hbase
  have hbg : B ≤ g := (hown.lt g rfl).1
  unfold Go.Oper.wp execOp
  have hc : a.eval (.const (.int .i64 (k : Int))) = .int .i64 (k : Int) := rfl
  simp only [ho, resolve, invoke, builtin, Sem.run_bind, Sem.run_pure, Result.andThen_ok, List.map_toArray, List.map_cons, List.map_nil, hs, hc, hrun]
  exact hK _ _ (h v' w' h1 (hb.grown h2 hbase fun k' hk => by cases hk; exact hbg))
end Go.Proofs.Ytoflkbilkkfekaa

namespace Go.Proofs.Ytoflkbilkkfekaa
open Go.ChangeShapes Go.WideShapes Go.ChangeAt Go.RowKit
set_option linter.unusedVariables false
set_option linter.unusedSimpArgs false

/-! The document's answers for lists of senses. -/
def hasB (L : List Sns) (s : Sns) : Bool := L.any (· == s)
end Go.Proofs.Ytoflkbilkkfekaa

namespace Go.Proofs.Ytoflkbilkkfekaa
open Go.ChangeShapes Go.WideShapes Go.ChangeAt Go.RowKit
set_option linter.unusedVariables false
set_option linter.unusedSimpArgs false

/-! The document's answers for lists of senses: Add, First. -/
def power : Sns := (6, 41, 0)
def addL (L : List Sns) (s : Sns) : List Sns := if hasB L s then L else if s == power then [s] else if 4 ≤ L.length then L else L ++ [s]
theorem addL_ok {L : List Sns} {s : Sns} (h : ∀ x ∈ L, OkS x) (hs : OkS s) : ∀ x ∈ addL L s, OkS x := by
  intro x hx
  unfold addL at hx
  split at hx
  · exact h x hx
  · split at hx
    · simp at hx; rw [hx]; exact hs
    · split at hx
      · exact h x hx
      · rcases List.mem_append.1 hx with hx | hx
        · exact h x hx
        · simp at hx; rw [hx]; exact hs
theorem addL_length (L : List Sns) (s : Sns) : (addL L s).length ≤ L.length + 1 := by
  unfold addL
  split
  · omega
  · split
    · simp
    · split
      · omega
      · simp
def headS (L : List Sns) : Sns := L.headD (0, 0, 0)
end Go.Proofs.Ytoflkbilkkfekaa

namespace Go.Proofs.Ytoflkbilkkfekaa
open Go.ChangeShapes Go.WideShapes Go.ChangeAt Go.RowKit
set_option linter.unusedVariables false
set_option linter.unusedSimpArgs false

/-! What the landed sense does, said; proved in P4. -/
def IConS (f : FuncId) (s : Sns) : Prop := ∀ w : World, Calls Try.prog f #[] w fun e w' => e = .returned (sval s) ∧ Later w w'
theorem headS_ok {L : List Sns} (h : ∀ x ∈ L, OkS x) : OkS (headS L) := by
  cases L with
  | nil => exact ⟨by simp [headS], by simp [headS], by simp [headS]⟩
  | cons s M => exact h s (by simp)
theorem tail_ok {L : List Sns} (h : ∀ x ∈ L, OkS x) : ∀ x ∈ L.tail, OkS x := fun x hx => h x (List.mem_of_mem_tail hx)
theorem Sl.shape {w : World} {v : Value} {L : List Sns} (h : Sl w v L) : ∃ a n c, v = .slice a n c ∧ Hid (n = L.length) ∧ n ≤ 9223372036854775807 := by
  obtain ⟨a, c, rfl⟩ := h.1.shape
  have := h.1.2.1
  unfold maxLen at this
  exact ⟨a, _, c, rfl, rfl, by omega⟩
theorem box_sense {w : World} {g : Nat} {t : TypeId} {L : List Sns} (hB : Box w g t (sv L)) (k : Nat) (hk : k < L.length) : w.cell? ⟨g, k * 3, none⟩ = some (.int .i64 L[k].1) ∧ w.cell? ⟨g, k * 3 + 1, none⟩ = some (.int .i64 L[k].2.1) ∧ w.cell? ⟨g, k * 3 + 2, none⟩ = some (.int .i64 L[k].2.2) := by
  have h := sv_at L k hk
  exact ⟨(hB.cell _).trans h.1, (hB.cell _).trans h.2.1, (hB.cell _).trans h.2.2⟩
end Go.Proofs.Ytoflkbilkkfekaa

namespace Go.Proofs.Ytoflkbilkkfekaa
open Go.ChangeShapes Go.WideShapes Go.ChangeAt Go.RowKit
set_option linter.unusedVariables false
set_option linter.unusedSimpArgs false

def of16 : List Sns := [(2, 58, 0), (7, 39, 0), (5, 83, 2), (5, 33, 0), (5, 36, 0), (5, 32, 0), (5, 37, 0), (5, 38, 0), (5, 26, 0), (5, 57, 0), (14, 29, 0), (6, 41, 0), (6, 41, 2), (6, 41, 3), (6, 41, 7), (6, 40, 0)]
theorem of16_ok : ∀ s ∈ of16, OkS s := by
  intro s hs
  simp [of16] at hs
  rcases hs with rfl | rfl | rfl | rfl | rfl | rfl | rfl | rfl | rfl | rfl | rfl | rfl | rfl | rfl | rfl | rfl <;> exact ⟨by simp, by simp, by simp⟩
theorem of16_bad : ∀ s ∈ of16, (s == (0, 0, 0)) = false := by decide
end Go.Proofs.Ytoflkbilkkfekaa

namespace Go.Proofs.Ytoflkbilkkfekaa
open Go.ChangeShapes Go.WideShapes Go.ChangeAt Go.RowKit
set_option linter.unusedVariables false
set_option linter.unusedSimpArgs false

/-! The landed sense: the sixteen senses, Good, Bytes. -/
theorem run_make18 (w : World) : (Instr.makeSlice 23 (.int .i64 18) (.int .i64 18)).run Try.prog w = .ok (.slice (some ⟨w.heap.size, 0, none⟩) 18 18) (w.alloc (.cells #[.int .u8 0, .int .u8 0, .int .u8 0, .int .u8 0, .int .u8 0, .int .u8 0, .int .u8 0, .int .u8 0, .int .u8 0, .int .u8 0, .int .u8 0, .int .u8 0, .int .u8 0, .int .u8 0, .int .u8 0, .int .u8 0, .int .u8 0, .int .u8 0] 5)) := by
  have := run_make_row' (P := Try.prog) 23 5 (.int .u8 0) 1 Try.underlying23 Try.info_u8 rfl .i64 .i64 18 (by decide) (by decide) w
  rw [show madeCells #[Value.int .u8 0] 18 = #[.int .u8 0, .int .u8 0, .int .u8 0, .int .u8 0, .int .u8 0, .int .u8 0, .int .u8 0, .int .u8 0, .int .u8 0, .int .u8 0, .int .u8 0, .int .u8 0, .int .u8 0, .int .u8 0, .int .u8 0, .int .u8 0, .int .u8 0, .int .u8 0] from by apply Array.toList_inj.1; rw [show (#[Value.int .u8 0] : Array Value) = Array.replicate 1 (.int .u8 0) from rfl, madeCells_rep _ 1 18 (by decide)]; rfl] at this
  exact this
end Go.Proofs.Ytoflkbilkkfekaa

namespace Go.Proofs.Ytoflkbilkkfekaa
open Go.ChangeShapes Go.WideShapes Go.ChangeAt Go.RowKit
set_option linter.unusedVariables false
set_option linter.unusedSimpArgs false

/-! Ops, and their classes. -/
def classI (op : Int) : Int := if op = 8 ∨ op = 40 ∨ op = 168 ∨ op = 136 then 1 else if op = 10 ∨ op = 42 ∨ op = 170 ∨ op = 138 then 2 else if op = 47 ∨ op = 175 ∨ op = 143 then 3 else if op = 53 ∨ op = 145 then 4 else 0
theorem class_cases (op : Int) : (op = 8 ∨ op = 40 ∨ op = 168 ∨ op = 136 ∨ op = 10 ∨ op = 42 ∨ op = 170 ∨ op = 138 ∨ op = 47 ∨ op = 175 ∨ op = 143 ∨ op = 53 ∨ op = 145) ∨ (op ≠ 8 ∧ op ≠ 40 ∧ op ≠ 168 ∧ op ≠ 136 ∧ op ≠ 10 ∧ op ≠ 42 ∧ op ≠ 170 ∧ op ≠ 138 ∧ op ≠ 47 ∧ op ≠ 175 ∧ op ≠ 143 ∧ op ≠ 53 ∧ op ≠ 145) := by omega
theorem class_other {op : Int} (h : op ≠ 8 ∧ op ≠ 40 ∧ op ≠ 168 ∧ op ≠ 136 ∧ op ≠ 10 ∧ op ≠ 42 ∧ op ≠ 170 ∧ op ≠ 138 ∧ op ≠ 47 ∧ op ≠ 175 ∧ op ≠ 143 ∧ op ≠ 53 ∧ op ≠ 145) : classI op = 0 := by
  unfold classI; simp [h]
theorem u16_and_nat (a b : Nat) (ha : a < 65536) (hb : b < 65536) : bits .and .u16 (a : Int) (b : Int) = ((a &&& b : Nat) : Int) := by
  have hx : a &&& b < 2 ^ 16 := Nat.and_lt_two_pow _ (by omega)
  show IntKind.u16.wrap ((BitVec.ofInt 16 (a : Int) &&& BitVec.ofInt 16 (b : Int)).toNat : Int) = _
  have h1 : (BitVec.ofInt 16 (a : Int)).toNat = a := by simp [BitVec.toNat_ofInt]; omega
  have h2 : (BitVec.ofInt 16 (b : Int)).toNat = b := by simp [BitVec.toNat_ofInt]; omega
  rw [BitVec.toNat_and, h1, h2, IntKind.wrap_u16]
  omega
def someI (a b c : Int) : Int := bits .or .u16 (bits .or .u16 (IntKind.u16.wrap (IntKind.u16.wrap a)) (IntKind.u16.wrap (IntKind.u16.wrap b * 16))) (IntKind.u16.wrap (IntKind.u16.wrap c * 128))
theorem results_tmp4 {fn : Func} {t u v x : Tmp} (h : fn.results = #[.tmp t, .tmp u, .tmp v, .tmp x]) (tmps : Array Value) (P : Program) (w : World) :
    (results fn tmps).run P w = .ok (.tuple #[tmps.getD t undef, tmps.getD u undef, tmps.getD v undef, tmps.getD x undef]) w := by
  simp [results, h]
def pbit (p : Nat) : Nat := p / 16 % 8
def pcount (p : Nat) : Nat := p / 128
def pwidth (p : Nat) : Nat := (p / 16 % 8 + p / 128 + 7) / 8
def pfirst (p : Nat) : Int := (p % 16 : Nat) + 1 - (pwidth p : Int)
def readP (p : Nat) (l : List UInt8) : Nat := bitsI (bigAt l (pfirst p) (pwidth p)) (pbit p) (pcount p)
theorem bigAt_le (l : List UInt8) (a n : Int) : bigAt l a n ≤ 18446744073709551615 := by
  unfold bigAt
  by_cases h : holdsB l.length a n = true
  · rw [h]; simp [holdsB] at h
    have := seg_big_lt l a.toNat n.toNat (by omega)
    simp; omega
  · simp [h]
end Go.Proofs.Ytoflkbilkkfekaa

namespace Go.Proofs.Ytoflkbilkkfekaa
open Go.ChangeShapes Go.WideShapes Go.ChangeAt Go.RowKit
set_option linter.unusedVariables false
set_option linter.unusedSimpArgs false

/-! How a command's bytes say it: at, n, page, bits, none, what must be. -/
abbrev Rul := Nat × Nat × Nat
abbrev Frm := Nat × Nat × Nat × Nat × Nat × List Rul
abbrev rc (r : Rul) : List Value := [.int .u16 (r.1 : Int), .int .u64 (r.2.1 : Int), .int .u64 (r.2.2 : Int)]
def rv (L : List Rul) : List Value := L.flatMap rc
abbrev fval (f : Frm) (s : Value) : Value := .agg #[.int .u16 (f.1 : Int), .int .u16 (f.2.1 : Int), .int .u16 (f.2.2.1 : Int), .int .u16 (f.2.2.2.1 : Int), .int .i64 (f.2.2.2.2.1 : Int), s]
def FormV (w : World) (v : Value) (f : Frm) : Prop := ∃ s, v = fval f s ∧ Rw 3 w s f.2.2.2.2.2.length (rv f.2.2.2.2.2)
def knownB (op : Int) : Bool := [0, 3, 8, 10, 18, 21, 26, 27, 30, 37, 40, 42, 47, 53, 85, 90, 136, 138, 143, 145, 158, 160, 168, 170, 175].contains op
def formN (op : Int) : Frm :=
  if op = 8 ∨ op = 10 then (2691, 1028, 0, 0, 256, [])
  else if op = 40 ∨ op = 42 then (4101, 2056, 0, 177, 0, [])
  else if op = 136 ∨ op = 138 then (8201, 4109, 0, 177, 0, [])
  else if op = 168 ∨ op = 170 then (4101, 4105, 0, 177, 0, [])
  else if op = 47 then (4101, 2056, 0, 145, 0, [(161, 0, 0)])
  else if op = 143 then (8201, 4109, 0, 145, 0, [(161, 0, 0)])
  else if op = 175 then (4101, 4105, 0, 145, 0, [(161, 0, 0)])
  else if op = 53 then (4101, 2056, 0, 0, 0, [])
  else if op = 145 then (8201, 4109, 0, 0, 0, [])
  else if op = 3 then (0, 1028, 0, 0, 0, [(129, 0, 0)])
  else if op = 18 then (0, 2052, 1026, 129, 0, [])
  else if op = 21 then (0, 1028, 0, 0, 0, [(193, 1, 1), (129, 0, 0)])
  else if op = 85 then (0, 2056, 0, 0, 0, [(193, 1, 1), (129, 0, 0)])
  else if op = 26 then (0, 1028, 770, 354, 0, [(1027, 0, 0)])
  else if op = 90 then (0, 2056, 770, 354, 0, [(1027, 0, 0)])
  else if op = 27 then (0, 0, 0, 260, 0, [(580, 0, 0)])
  else if op = 30 then (0, 0, 0, 260, 0, [(260, 0, 1)])
  else if op = 37 then (0, 0, 0, 0, 0, [(4101, 0, 0), (136, 0, 0)])
  else if op = 158 then (0, 4109, 0, 0, 0, [(641, 16, 16)])
  else if op = 160 then (0, 4105, 0, 0, 0, [(1026, 0, 2), (4105, 16, 4294967295)])
  else (0, 0, 0, 0, 0, [])
theorem rw_of_box3 {w : World} {g n : Nat} {t : TypeId} {xs : List Value} {L : List Rul} (h : Box w g t xs) (hx : xs = rv L) (hl : L.length = n) (hs : xs.length = n * 3) (hn : n ≤ 1000000) : Rw 3 w (.slice (some ⟨g, 0, none⟩) n n) L.length (rv L) := by
  subst hx hl
  exact ⟨hs, by unfold maxLen; omega, _, L.length, rfl, Nat.le_refl _, .inr ⟨g, 0, rfl, h.range⟩⟩
theorem rw_none3 (w : World) : Rw 3 w (.slice none 0 0) ([] : List Rul).length (rv []) := Rw.nil 3 w


abbrev fc (f : Frm) (s : Value) : List Value := [.int .u16 (f.1 : Int), .int .u16 (f.2.1 : Int), .int .u16 (f.2.2.1 : Int), .int .u16 (f.2.2.2.1 : Int), .int .i64 (f.2.2.2.2.1 : Int), s]
/-- a store into a variable: the world behind it stands by itself -/
theorem wpList_storeU {P : Program} {w : World} {ops : Array Oper} {rest : List Oper} {op : Oper} {a : Act} {Q : Exit → Act → World → Prop} (hgd : op.guard = none) (ty : TypeId) (x y : Operand) (ho : op.op = .store ty x y) (g o : Nat) (hx : a.eval x = .pointer (some ⟨g, o, none⟩)) (vs : List Value) (hy : a.eval y = .agg vs.toArray)
    (hi : (P.info? ty).map (·.size) = some vs.length) (h1 : ∀ u ∈ vs, u.oneCell' = true) (t : TypeId) (cs : List Value) (hB : Box w g t cs) (hl : o + vs.length ≤ cs.length)
    (h : ∀ w', Hid (w' = w.setCells g o vs) → wpList P ops Q rest (a.put op.dst undef) w') : wpList P ops Q (op :: rest) a w :=
  wpList_store_mid hgd ty x y ho g o vs.toArray hx hy (by simpa using hB.there o vs.length hl) (by simpa using hi) (all_oneCell_toArray h1) (h _ rfl)
theorem fc_one (f : Frm) (s : Value) (hs : s.oneCell' = true) : ∀ u ∈ fc f s, u.oneCell' = true := by
  intro u hu
  simp [fc] at hu
  rcases hu with rfl | rfl | rfl | rfl | rfl | rfl <;> first | rfl | exact hs
end Go.Proofs.Ytoflkbilkkfekaa

namespace Go.Proofs.Ytoflkbilkkfekaa
open Go.ChangeShapes Go.WideShapes Go.ChangeAt Go.RowKit
set_option linter.unusedVariables false
set_option linter.unusedSimpArgs false

/-! Page: one. -/
def pageL (page lun : Int) (there : Bool) : List UInt8 :=
  if page = 0 then [firstB there, 0, 0, 4, 0, 128, 131, 176]
  else if page = 128 then [firstB there, 128, 0, 8] ++ serL lun
  else if page = 131 then [firstB there, 131, 0, 20, 2, 1, 0, 16] ++ ([82, 69, 84, 73, 67, 85, 76, 69] ++ serL lun)
  else if page = 176 then [firstB there, 176, 0, 60, 0, 0, 0, 0, 0, 0, 0, 64] ++ z52
  else []
def pageS (page : Int) : Sns := if page = 0 ∨ page = 128 ∨ page = 131 ∨ page = 176 then (0, 0, 0) else (5, 36, 0)
/-- '[]byte(s)': the world behind it stands by itself -/
theorem wpList_strbytes {w : World} {ops : Array Oper} {rest : List Oper} {o : Oper} {a : Act} {Q : Exit → Act → World → Prop} (hg : o.guard = none) (x : Operand) (hop : o.op = Op.convert 9 23 x) (l : List UInt8) (hx : a.eval x = .string (strOf l)) (hm : l.length ≤ 1000000)
    (h : ∀ v' w', Bs w' v' l → Later w w' → wpList Try.prog ops Q rest (a.put o.dst v') w') : wpList Try.prog ops Q (o :: rest) a w := by
  refine wpList_plain hg fun K hK => ?_
  have hrun := Lib.run_convert_string_bytes (P := Try.prog) w 9 23 5 (strOf l) Try.underlying9 Try.underlying23 Try.underlying5
  have hsz : (strOf l).size = l.length := by simp [strOf, ByteArray.size]
  rw [hsz] at hrun
  unfold Go.Oper.wp
  simp [execOp, hop, hx, hrun, Result.andThen]
  exact hK _ _ (h _ _ (bs_bytes w l hm) (later_bytes w _ _))
/-- bytes lie in no sense -/
theorem Bs.setSns7 {w : World} {v : Value} {l : List UInt8} (h : Bs w v l) {g : Nat} {t : TypeId} {s : Sns} (hB : Box w g t (sc s)) (vs : List Value) (o : Nat) : Bs (w.setCells g o vs) v l := by
  obtain ⟨h1, a, cap, rfl, h2, h3⟩ := h
  refine ⟨h1, a, cap, rfl, h2, ?_⟩
  rcases h3 with h3 | ⟨b, off, rfl, h3⟩
  · exact .inl h3
  · by_cases hl : l = []
    · exact .inl hl
    · have hp : 0 < l.length := List.length_pos_iff.2 hl
      have hne : b ≠ g := by
        intro e
        subst e
        have h4 := h3 0 hp
        rw [hB.cell] at h4
        have := List.mem_of_getElem? h4
        simp [sc] at this
      refine .inr ⟨b, off, rfl, fun j hj => ?_⟩
      have h0 := h3 j hj
      have e := heap_setCells_other w g b hne vs o
      unfold World.cell? at h0 ⊢
      simp only [e]
      exact h0
end Go.Proofs.Ytoflkbilkkfekaa

namespace Go.Proofs.Ytoflkbilkkfekaa
open Go.ChangeShapes Go.WideShapes Go.ChangeAt Go.RowKit
set_option linter.unusedVariables false
set_option linter.unusedSimpArgs false

theorem serL_len (lun : Int) : (serL lun).length = 8 := rfl
theorem ret_ser (l : List UInt8) : (⟨#[82, 69, 84, 73, 67, 85, 76, 69]⟩ : ByteArray) ++ strOf l = strOf ([82, 69, 84, 73, 67, 85, 76, 69] ++ l) := by
  apply ByteArray.ext
  simp [strOf, ByteArray.data_append]
end Go.Proofs.Ytoflkbilkkfekaa

namespace Go.Proofs.Ytoflkbilkkfekaa
open Go.ChangeShapes Go.WideShapes Go.ChangeAt Go.RowKit
set_option linter.unusedVariables false
set_option linter.unusedSimpArgs false

/-! Page, whatever it is. -/
theorem pageL_len (page lun : Int) (there : Bool) : (pageL page lun there).length ≤ 64 := by
  unfold pageL
  split
  · simp
  split
  · simp [serL_len]
  split
  · simp [serL_len]
  split
  · simp [z52_len]
  · simp
end Go.Proofs.Ytoflkbilkkfekaa
