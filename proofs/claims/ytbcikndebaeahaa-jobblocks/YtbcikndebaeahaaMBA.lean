import Derived.Laws.Cover3
import Derived.Test.YtbcikndebaeahaaMAL
import Derived.Test.YtbcikndebaeahaaMAA
import Derived.Test.YtbcikndebaeahaaMAG
import Derived.Test.YtbcikndebaeahaaMAN
import Derived.Test.YtbcikndebaeahaaWL10D
import Derived.Test.YtbcikndebaeahaaWP10e
import Derived.Test.YtbcikndebaeahaaMAP
namespace Go.Proofs.Ytbcikndebaeahaa
open Go.ChangeShapes Go.WideShapes Go.ChangeAt Go.RowKit
set_option linter.unusedVariables false
set_option maxRecDepth 20000
set_option linter.unusedSimpArgs false
/-! Slots, and what is done to them, that come in. -/
section
variable {H : Type} {enc : TypeId × Value → H} {w : World} {r : Reach} {base : Nat} {v : Value} {d : DataW H} {p : List MemPlace}
theorem Try.is_slot : Try.prog.underlying 27 = some (.struct (Try.prog.fieldsOf 27)) := by kernel_rfl
theorem Try.places_slot : (Try.prog.fieldsOf 27).toList.map (fun f => (f.type, f.offset)) = [(25, 0), (4, 2), (4, 3), (4, 4)] := by kernel_rfl
end
end Go.Proofs.Ytbcikndebaeahaa

namespace Go.Proofs.Ytbcikndebaeahaa
open Go.ChangeShapes Go.WideShapes Go.ChangeAt Go.RowKit
set_option linter.unusedVariables false
set_option maxRecDepth 20000
set_option linter.unusedSimpArgs false
/-! A command that comes in. -/
section
variable {H : Type} {enc : TypeId × Value → H} {w : World} {r : Reach} {base : Nat} {v : Value} {d : DataW H} {p : List MemPlace}
theorem Try.places_cmd7 : (Try.prog.fieldsOf 35).toList.map (fun f => (f.type, f.offset)) = [(3, 0), (33, 1), (3, 2), (3, 3), (3, 4)] := by kernel_rfl
theorem shape_cmd7 (fuel : Nat) (cs : List Value) (x : DataW H × List MemPlace) (h : DataW.trod enc Try.prog w 0 (fun _ => true) true fuel 35 cs = some x) : ∃ c : Cmd, OkC7 c ∧ cs = cc c := by
  obtain ⟨hl, m0, y0, h0⟩ := shape_field Try.is_cmd Try.places_cmd7 0 _ _ rfl h
  obtain ⟨_, m1, y1, h1⟩ := shape_field Try.is_cmd Try.places_cmd7 1 _ _ rfl h
  obtain ⟨_, m2, y2, h2⟩ := shape_field Try.is_cmd Try.places_cmd7 2 _ _ rfl h
  obtain ⟨_, m3, y3, h3⟩ := shape_field Try.is_cmd Try.places_cmd7 3 _ _ rfl h
  obtain ⟨_, m4, y4, h4⟩ := shape_field Try.is_cmd Try.places_cmd7 4 _ _ rfl h
  rw [show Try.prog.cellsOf 35 = 5 from by kernel_rfl] at hl
  rw [show Try.prog.cellsOf 3 = 1 from by kernel_rfl] at h0 h2 h3 h4
  rw [show Try.prog.cellsOf 33 = 1 from by kernel_rfl] at h1
  obtain ⟨n0, e0, w0⟩ := shape_int Try.underlying3 h0
  obtain ⟨n1, e1, w1⟩ := shape_int Try.underlying33 h1
  obtain ⟨n2, e2, w2⟩ := shape_int Try.underlying3 h2
  obtain ⟨n3, e3, w3⟩ := shape_int Try.underlying3 h3
  obtain ⟨n4, e4, w4⟩ := shape_int Try.underlying3 h4
  have b1 := bounds_u64 w1
  obtain ⟨m, rfl⟩ : ∃ m : Nat, n1 = m := ⟨n1.toNat, by omega⟩
  refine ⟨(n0, m, n2, n3, n4), ⟨bounds_i64 w0, by simp only; omega, bounds_i64 w2, bounds_i64 w3, bounds_i64 w4⟩, ?_⟩
  match cs, hl with
  | [x0, x1, x2, x3, x4], _ =>
    simp at e0 e1 e2 e3 e4
    rw [e0, e1, e2, e3, e4]
def RCmd7 (v : Value) : Prop := ∃ c : Cmd, OkC7 c ∧ v = cval c
theorem rd_cmd7 (hv : Value.okWide Try.prog w r base 35 v) (h : DataW.Trod enc Try.prog w 0 (fun _ => true) true 35 v d p) : RCmd7 v := by
  obtain ⟨cs, rfl, _⟩ := okWide_struct Try.is_cmd hv
  obtain ⟨fuel, hf⟩ := h
  obtain ⟨c, hc, e⟩ := shape_cmd7 fuel _ _ hf
  exact ⟨c, hc, agg_of (show cs.toList = _ from e)⟩
end
end Go.Proofs.Ytbcikndebaeahaa

namespace Go.Proofs.Ytbcikndebaeahaa
open Go.ChangeShapes Go.WideShapes Go.ChangeAt Go.RowKit
set_option linter.unusedVariables false
set_option maxRecDepth 20000
set_option linter.unusedSimpArgs false
/-! Units, jobs, and parts of bytes, that come in. -/
section
variable {H : Type} {enc : TypeId × Value → H} {w : World} {r : Reach} {base : Nat} {v : Value} {d : DataW H} {p : List MemPlace}
theorem shape_slot10 (fuel : Nat) (cs : List Value) (x : DataW H × List MemPlace) (h : DataW.trod enc Try.prog w 0 (fun _ => true) true fuel 27 cs = some x) :
    ∃ n F D b1 b2 b3 a c a' k c', cs = tc (.slice a n c) (.slice a' k c') b1 b2 b3 ∧ Med w (.agg #[.slice a n c, .slice a' k c']) n F D := by
  obtain ⟨hl, m0, y0, h0⟩ := shape_field Try.is_slot Try.places_slot 0 _ _ rfl h
  obtain ⟨_, m1, y1, h1⟩ := shape_field Try.is_slot Try.places_slot 1 _ _ rfl h
  obtain ⟨_, m2, y2, h2⟩ := shape_field Try.is_slot Try.places_slot 2 _ _ rfl h
  obtain ⟨_, m3, y3, h3⟩ := shape_field Try.is_slot Try.places_slot 3 _ _ rfl h
  rw [show Try.prog.cellsOf 27 = 5 from by kernel_rfl] at hl
  rw [show Try.prog.cellsOf 25 = 2 from by kernel_rfl] at h0
  rw [show Try.prog.cellsOf 4 = 1 from by kernel_rfl] at h1 h2 h3
  obtain ⟨vb, vd, n, F, D, e0, r0, r1, ho⟩ := shape_medium _ _ _ h0
  obtain ⟨b1, e1⟩ := shape_bool Try.underlying4 h1
  obtain ⟨b2, e2⟩ := shape_bool Try.underlying4 h2
  obtain ⟨b3, e3⟩ := shape_bool Try.underlying4 h3
  obtain ⟨a, c, rfl⟩ := r0.shape
  obtain ⟨a', c', rfl⟩ := r1.shape
  refine ⟨n, F, D, b1, b2, b3, a, c, a', D.length, c', ?_, _, _, rfl, r0, r1, ho⟩
  match cs, hl with
  | [x0, x1, x2, x3, x4], _ =>
    simp at e0 e1 e2 e3
    rw [e0.1, e0.2, e1, e2, e3]
theorem shape_senses10 (fuel : Nat) (cs : List Value) (x : DataW H × List MemPlace) (h : DataW.trod enc Try.prog w 0 (fun _ => true) true fuel 28 cs = some x) :
    ∃ am m cm M, cs = [.slice am m cm] ∧ Sl w (.slice am m cm) M ∧ m ≤ maxLen := by
  obtain ⟨v, css, rfl, h1, h2⟩ := shape_rows Try.underlying28 (sz := 3) (by kernel_rfl) (by decide) (fun cs => ∃ s : Sns, OkS s ∧ cs = sc s) (fun fuel cs x hx => shape_sense fuel cs x hx) fuel cs x h
  obtain ⟨L, hL, hok, hf⟩ := sv_flatten css (fun cs hcs => (h1 cs hcs).1)
  rw [hf, ← hL] at h2
  have hm := h2.2.1
  obtain ⟨a, c, rfl⟩ := h2.shape
  exact ⟨a, L.length, c, L, rfl, ⟨h2, hok⟩, hm⟩
theorem shape_bytes10 (fuel : Nat) (cs : List Value) (x : DataW H × List MemPlace) (h : DataW.trod enc Try.prog w 0 (fun _ => true) true fuel 36 cs = some x) :
    ∃ ax kx cx B, cs = [.slice ax kx cx] ∧ Bs w (.slice ax kx cx) B := by
  obtain ⟨v, css, rfl, h1, h2⟩ := shape_rows Try.underlying36 (sz := 1) (by kernel_rfl) (by decide) (fun cs => ∃ c : UInt8, cs = [.int .u8 (c.toNat : Int)]) (fun fuel cs x hx => shape_u8 Try.underlying5 hx) fuel cs x h
  have hf : ∀ css : List (List Value), (∀ cs ∈ css, ∃ c : UInt8, cs = [.int .u8 (c.toNat : Int)]) → ∃ L : List UInt8, L.length = css.length ∧ css.flatten = bv L := by
    intro css
    induction css with
    | nil => intro _; exact ⟨[], rfl, rfl⟩
    | cons c css ih =>
      intro hh
      obtain ⟨X, rfl⟩ := hh c (by simp)
      obtain ⟨L, q1, q2⟩ := ih (fun cs hcs => hh cs (by simp [hcs]))
      exact ⟨X :: L, by simp [q1], by rw [List.flatten_cons, q2]; rfl⟩
  obtain ⟨L, hL, hfl⟩ := hf css (fun cs hcs => (h1 cs hcs).1)
  rw [hfl, ← hL] at h2
  obtain ⟨a, c, rfl⟩ := h2.shape
  exact ⟨a, L.length, c, L, rfl, h2.bs.1⟩
theorem Try.is_unit : Try.prog.underlying 32 = some (.struct (Try.prog.fieldsOf 32)) := by kernel_rfl
theorem Try.places_unit : (Try.prog.fieldsOf 32).toList.map (fun f => (f.type, f.offset)) = [(27, 0), (4, 5), (28, 6), (30, 7)] := by kernel_rfl
theorem Try.is_job : Try.prog.underlying 38 = some (.struct (Try.prog.fieldsOf 38)) := by kernel_rfl
theorem Try.places_job : (Try.prog.fieldsOf 38).toList.map (fun f => (f.type, f.offset)) = [(35, 0), (3, 5), (3, 6), (36, 7), (30, 8)] := by kernel_rfl
def RUnit10 (w : World) (v : Value) : Prop := ∃ (ab : Option Addr) (n cb : Nat) (aD : Option Addr) (k cD : Nat) (F : List UInt8) (D : List Drt) (p r l cc : Bool) (am : Option Addr) (m cm : Nat) (s : Sns) (M : List Sns),
  v = uval ab n cb aD k cD p r l cc am m cm s ∧ Med w (.agg #[.slice ab n cb, .slice aD k cD]) n F D ∧ Sl w (.slice am m cm) M ∧ m ≤ maxLen ∧ OkS s
def RJob10 (w : World) (v : Value) : Prop := ∃ (c : Cmd) (len took : Int) (ar : Option Addr) (kr cr : Nat) (S : Sns) (R : List UInt8),
  v = jval c len took ar kr cr S ∧ Bs w (.slice ar kr cr) R ∧ OkC7 c ∧ OkS S ∧ In64 len ∧ In64 took ∧ kr ≤ maxLen
theorem rd_unit10 (hv : Value.okWide Try.prog w r base 32 v) (h : DataW.Trod enc Try.prog w 0 (fun _ => true) true 32 v d p) : RUnit10 w v := by
  obtain ⟨cs, rfl, _⟩ := okWide_struct Try.is_unit hv
  obtain ⟨fuel, hf⟩ := h
  obtain ⟨hl, m0, y0, h0⟩ := shape_field Try.is_unit Try.places_unit 0 _ _ rfl hf
  obtain ⟨_, m1, y1, h1⟩ := shape_field Try.is_unit Try.places_unit 1 _ _ rfl hf
  obtain ⟨_, m2, y2, h2⟩ := shape_field Try.is_unit Try.places_unit 2 _ _ rfl hf
  obtain ⟨_, m3, y3, h3⟩ := shape_field Try.is_unit Try.places_unit 3 _ _ rfl hf
  rw [show Try.prog.cellsOf 32 = 10 from by kernel_rfl] at hl
  rw [show Try.prog.cellsOf 27 = 5 from by kernel_rfl] at h0
  rw [show Try.prog.cellsOf 4 = 1 from by kernel_rfl] at h1
  rw [show Try.prog.cellsOf 28 = 1 from by kernel_rfl] at h2
  rw [show Try.prog.cellsOf 30 = 3 from by kernel_rfl] at h3
  obtain ⟨n, F, D, p1, p2, p3, a, c, a', k, c', e0, hm⟩ := shape_slot10 _ _ _ h0
  obtain ⟨b1, e1⟩ := shape_bool Try.underlying4 h1
  obtain ⟨am, m, cm, M, e2, hM, hmm⟩ := shape_senses10 _ _ _ h2
  obtain ⟨s, hs, e3⟩ := shape_sense _ _ _ h3
  have e : cs.toList = uc a n c a' k c' p1 p2 p3 b1 am m cm s := by
    change cs.toList.length = 10 at hl
    change (cs.toList.drop 0).take 5 = _ at e0
    change (cs.toList.drop 5).take 1 = _ at e1
    change (cs.toList.drop 6).take 1 = _ at e2
    change (cs.toList.drop 7).take 3 = _ at e3
    generalize cs.toList = L at *
    match L, hl with
    | [x0, x1, x2, x3, x4, x5, x6, x7, x8, x9], _ =>
      simp [sc] at e0 e1 e2 e3
      obtain ⟨q0, q1, q2, q3, q4⟩ := e0
      obtain ⟨q7, q8, q9⟩ := e3
      rw [q0, q1, q2, q3, q4, e1, e2, q7, q8, q9]
  exact ⟨a, n, c, a', k, c', F, D, p1, p2, p3, b1, am, m, cm, s, M, by rw [agg_of e], hm, hM, hmm, hs⟩
theorem rd_job10 (hv : Value.okWide Try.prog w r base 38 v) (h : DataW.Trod enc Try.prog w 0 (fun _ => true) true 38 v d p) : RJob10 w v := by
  obtain ⟨cs, rfl, _⟩ := okWide_struct Try.is_job hv
  obtain ⟨fuel, hf⟩ := h
  obtain ⟨hl, m0, y0, h0⟩ := shape_field Try.is_job Try.places_job 0 _ _ rfl hf
  obtain ⟨_, m1, y1, h1⟩ := shape_field Try.is_job Try.places_job 1 _ _ rfl hf
  obtain ⟨_, m2, y2, h2⟩ := shape_field Try.is_job Try.places_job 2 _ _ rfl hf
  obtain ⟨_, m3, y3, h3⟩ := shape_field Try.is_job Try.places_job 3 _ _ rfl hf
  obtain ⟨_, m4, y4, h4⟩ := shape_field Try.is_job Try.places_job 4 _ _ rfl hf
  rw [show Try.prog.cellsOf 38 = 11 from by kernel_rfl] at hl
  rw [show Try.prog.cellsOf 35 = 5 from by kernel_rfl] at h0
  rw [show Try.prog.cellsOf 3 = 1 from by kernel_rfl] at h1 h2
  rw [show Try.prog.cellsOf 36 = 1 from by kernel_rfl] at h3
  rw [show Try.prog.cellsOf 30 = 3 from by kernel_rfl] at h4
  obtain ⟨c, hc, e0⟩ := shape_cmd7 _ _ _ h0
  obtain ⟨n1, e1, w1⟩ := shape_int Try.underlying3 h1
  obtain ⟨n2, e2, w2⟩ := shape_int Try.underlying3 h2
  obtain ⟨ar, kr, cr, R, e3, hR⟩ := shape_bytes10 _ _ _ h3
  obtain ⟨s, hs, e4⟩ := shape_sense _ _ _ h4
  have e : cs.toList = jc c n1 n2 ar kr cr s := by
    change cs.toList.length = 11 at hl
    change (cs.toList.drop 0).take 5 = _ at e0
    change (cs.toList.drop 5).take 1 = _ at e1
    change (cs.toList.drop 6).take 1 = _ at e2
    change (cs.toList.drop 7).take 1 = _ at e3
    change (cs.toList.drop 8).take 3 = _ at e4
    generalize cs.toList = L at *
    match L, hl with
    | [x0, x1, x2, x3, x4, x5, x6, x7, x8, x9, x10], _ =>
      simp [sc, cc] at e0 e1 e2 e3 e4
      obtain ⟨q0, q1, q2, q3, q4⟩ := e0
      obtain ⟨q8, q9, q10⟩ := e4
      rw [q0, q1, q2, q3, q4, e1, e2, e3, q8, q9, q10]
  refine ⟨c, n1, n2, ar, kr, cr, s, R, by rw [agg_of e], hR, hc, hs, bounds_i64 w1, bounds_i64 w2, ?_⟩
  have := hR.1
  rw [hR.len'] at this
  exact this
theorem pts_flatten : ∀ css : List (List Value), (∀ cs ∈ css, ∃ ax kx cx B, cs = [.slice ax kx cx] ∧ Bs w (.slice ax kx cx) B) → ∃ P : List (List UInt8), P.length = css.length ∧ css.flatten.length = css.length ∧ ∀ i (h : i < P.length), ∃ ax cx, css.flatten[i]? = some (.slice ax P[i].length cx) ∧ Bs w (.slice ax P[i].length cx) P[i]
  | [], _ => ⟨[], rfl, rfl, fun i h => by simp at h⟩
  | c :: css, h => by
    obtain ⟨ax, kx, cx, B, rfl, hB⟩ := h c (by simp)
    obtain ⟨P, h1, h2, h3⟩ := pts_flatten css (fun cs hcs => h cs (by simp [hcs]))
    have hk := hB.len'
    subst hk
    refine ⟨B :: P, by simp [h1], by simp [h2], fun i hi => ?_⟩
    cases i with
    | zero => exact ⟨ax, cx, by simp, hB⟩
    | succ i =>
      obtain ⟨a', c', q1, q2⟩ := h3 i (by simp at hi; omega)
      exact ⟨a', c', by rw [List.flatten_cons]; simpa using q1, by simpa using q2⟩
def RParts10 (w : World) (v : Value) : Prop := ∃ P, Pts w v P
theorem rd_parts10 (hv : Value.okWide Try.prog w r base 52 v) (h : DataW.Trod enc Try.prog w 0 (fun _ => true) true 52 v d p) : RParts10 w v := by
  obtain ⟨css, h1, h2⟩ := rd_rows Try.underlying52 (sz := 1) (by kernel_rfl) (by decide) (fun cs => ∃ ax kx cx B, cs = [.slice ax kx cx] ∧ Bs w (.slice ax kx cx) B) (fun fuel cs x hx => shape_bytes10 fuel cs x hx) hv h
  obtain ⟨P, hP, hl, hall⟩ := pts_flatten css (fun cs hcs => (h1 cs hcs).1)
  obtain ⟨g1, g2, a, cap, rfl, g3, g4⟩ := h2
  refine ⟨P, a, cap, by rw [hP], by omega, by omega, ?_⟩
  rcases g4 with g4 | ⟨b, off, rfl, g4⟩
  · exact .inl (List.eq_nil_of_length_eq_zero (by omega))
  · refine .inr ⟨b, off, rfl, fun i hi => ?_⟩
    obtain ⟨ax, cx, q1, q2⟩ := hall i hi
    exact ⟨ax, cx, g4 i _ q1, q2⟩
end
end Go.Proofs.Ytbcikndebaeahaa

namespace Go.Proofs.Ytbcikndebaeahaa
open Go.ChangeShapes Go.WideShapes Go.ChangeAt Go.RowKit
set_option linter.unusedVariables false
set_option maxRecDepth 4000
set_option linter.unusedSimpArgs false
/-! The landed job: take, a byte. -/
theorem start_class {c : Cmd} {z : Int} (h : startL c = some z) (hm : modeOp c.1 = false) : classI c.1 = 2 ∨ classI c.1 = 3 := by
  have h1 : ¬ (c.1 = 21 ∨ c.1 = 85) := by simpa [modeOp] using hm
  unfold startL at h
  split at h
  · cases h
  split at h
  · rename_i h2
    rcases h2 with h2 | ⟨h2, _⟩
    · exact .inl h2
    · exact .inr h2
  · cases h
section
variable {n : Nat} {F : List UInt8} {D : List Drt} {p r cc : Bool} {c : Cmd} {len took : Int} {R : List UInt8} {S : Sns} {x : UInt8}
theorem tkN_one (h : took < len) : tkN len took ([x] : List UInt8).length = 1 := by
  unfold tkN
  simp only [List.length_cons, List.length_nil, Nat.zero_add]
  rw [if_neg (by omega)]
theorem tk_mode1 (hr : rightJ c len took R.length = true) (h : took < len) (hm : modeOp c.1 = true) : tkR n F D p r cc c len took R S [x] = ((F, D, S), took + 1, R ++ [x]) := by
  rw [tkR_mode hr hm, tkN_one h]
  rfl
theorem tk_rest (hr : rightJ c len took R.length = true) (hm : modeOp c.1 = false) : 0 ≤ took ∧ took ≤ len ∧ (R.length : Int) = took % 64 ∧ (classI c.1 = 2 ∨ classI c.1 = 3) := by
  obtain ⟨k, h1, rfl, h2, h3, h4⟩ := rightJ_some (show ¬ rightJ c len took R.length = false by rw [hr]; decide)
  rw [if_neg (by rw [hm]; decide)] at h4
  exact ⟨h2, h3, by simpa using h4, start_class h1 hm⟩
theorem tk_blk63 (hr : rightJ c len took R.length = true) (h : took < len) (hm : modeOp c.1 = false) (h63 : R.length = 63) :
    tkR n F D p r cc c len took R S [x] = ((blkF n F D p r cc c S (took / 64).toNat (R ++ [x]), blkD n F D p r cc c S (took / 64).toNat (R ++ [x]), blkS n F D p r cc c S (took / 64).toNat (R ++ [x])), took + 1, []) := by
  have hl : (R ++ [x]).length = 64 := by rw [List.length_append, h63]; rfl
  rw [tkR_blks (L := R ++ [x]) hr (by rw [hm]; decide) (by rw [tkN_one h]; rfl), tkN_one h, hl]
  show (blksT n p r cc c 1 F D S (took / 64).toNat (R ++ [x]), took + (1 : Nat), (R ++ [x]).drop 64) = _
  rw [List.drop_of_length_le (by omega)]
  show ((blkF n F D p r cc c S (took / 64).toNat ((R ++ [x]).take 64), blkD n F D p r cc c S (took / 64).toNat ((R ++ [x]).take 64), blkS n F D p r cc c S (took / 64).toNat ((R ++ [x]).take 64)), _, _) = _
  rw [List.take_of_length_le (by omega)]
  rfl
theorem tk_blk (hr : rightJ c len took R.length = true) (h : took < len) (hm : modeOp c.1 = false) (h63 : R.length ≠ 63) :
    tkR n F D p r cc c len took R S [x] = ((F, D, S), took + 1, R ++ [x]) := by
  have hk := (tk_rest hr hm).2.2.1
  have hl : (R ++ [x]).length = R.length + 1 := by rw [List.length_append]; rfl
  have hd : (R ++ [x]).length / 64 = 0 := by omega
  rw [tkR_blks (L := R ++ [x]) hr (by rw [hm]; decide) (by rw [tkN_one h]; rfl), tkN_one h, hd]
  rfl
end
section
variable {w1 : World} {g : Nat} {ab : Option Addr} {n cb : Nat} {aD : Option Addr} {k cD : Nat} {p r l cc : Bool} {am : Option Addr} {m cm : Nat} {s : Sns} {c : Cmd} {len took : Int} {ar : Option Addr} {kr cr : Nat} {S : Sns} {F : List UInt8} {D : List Drt} {M : List Sns} {R : List UInt8} {W : World}
theorem Med.keep10 {w w' : World} {a b : Value} {n : Nat} {F : List UInt8} {D : List Drt} {v : Value} (h : Med w (.agg #[a, b]) n F D) (hx : ∀ g, v.ownBlock = some g → OffS g a ∧ OffS g b) (hg : w.grownBy w' v.ownBlock) : Med w' (.agg #[a, b]) n F D := by
  obtain ⟨vb, vd, e, hb, hd, ho⟩ := h
  simp at e
  obtain ⟨rfl, rfl⟩ := e
  exact ⟨_, _, rfl, keepRw hg (fun g e => (hx g e).1) hb, keepRw hg (fun g e => (hx g e).2) hd, ho⟩
theorem Med.old10 {w : World} {a b : Value} {n : Nat} {F : List UInt8} {D : List Drt} {g : Nat} (h : Med w (.agg #[a, b]) n F D) (hg : w.heap.size ≤ g) : OffS g a ∧ OffS g b := by
  obtain ⟨vb, vd, e, hb, hd, ho⟩ := h
  simp at e
  obtain ⟨rfl, rfl⟩ := e
  exact ⟨hb.old (by decide) hg, hd.old (by decide) hg⟩
/-- bytes are appended to the rest -/
theorem WkA.append (h : WkA w1 g ab n cb aD k cD p r l cc am m cm s c len took ar kr cr S F D M R W) (hg : w1.heap.size ≤ g) (ar' : Option Addr) (kr' cr' : Nat) (R' : List UInt8) (W' : World)
    (hgr : W.grownBy W' (Value.slice ar kr cr).ownBlock) (ho : W'.ownsRow w1.heap.size 5 1 (.slice ar' kr' cr') kr' (bv R')) (hbl : ∀ b, (Value.slice ar' kr' cr').ownBlock = some b → (Value.slice ar kr cr).ownBlock = some b ∨ W.heap.size ≤ b) :
    WkA w1 g ab n cb aD k cD p r l cc am m cm s c len took ar' kr' cr' S F D M R' (W'.setCells g 17 [.slice ar' kr' cr']) ∧ Box W' g 65 (wc ab n cb aD k cD p r l cc am m cm s c len took ar kr cr S) := by
  obtain ⟨h1, h2, h3, h4, h5, h6⟩ := h
  have hL : Later w1 W' := Below.grown h1 hgr h1.size (fun k hk => (h5.lt k hk).1)
  have hB : Box W' g 65 (wc ab n cb aD k cD p r l cc am m cm s c len took ar kr cr S) := h2.kept (hgr.block g h2.lt (fun e => box_ne_own h2 h5 (by decide) g e.symm rfl))
  have hM : Med W' (.agg #[.slice ab n cb, .slice aD k cD]) n F D := h3.keep10 h6 hgr
  have hA : W'.ownsRow w1.heap.size 30 3 (.slice am m cm) m (sv M) := owns_kept h4 fun k hk => hgr.block k (h4.lt k hk).2 (fun e => own_ne_own h4 h5 (by decide) k hk e.symm)
  refine ⟨⟨hL.setCells hg _ _, hB.setCells [.slice ar' kr' cr'] 17 (by simp), hM.setNoB hB (wc_nob _ _ _ _ _ _ _ _ _ _ _ _ _ _ _ _ _ _ _ _ _) _ _, owns_setBox10 hA hB (by decide) _ _, owns_setBox10 ho hB (by decide) _ _, fun b hb => ?_⟩, hB⟩
  rcases hbl b hb with hb | hb
  · exact h6 b hb
  · exact h3.old10 hb
/-- nothing is left of the rest -/
theorem owns_empty {w : World} {B : Nat} {e : TypeId} {sz : Nat} {a : Option Addr} {n c : Nat} {xs : List Value} (h : w.ownsRow B e sz (.slice a n c) n xs) : w.ownsRow B e sz (.slice a 0 c) 0 [] := by
  refine ⟨by simp, ?_⟩
  rcases h.2 with ⟨h1, h2⟩ | ⟨g, cap, cur, e1, h2, h3, h4, h5, h6, h7⟩
  · simp at h1
    exact .inl ⟨by rw [h1.1, h1.2.2], rfl⟩
  · simp at e1
    obtain ⟨rfl, rfl⟩ := e1
    exact .inr ⟨g, c, cur, rfl, h2, h3, Nat.zero_le _, h5, h6, by simp⟩
set_option maxRecDepth 20000 in
set_option maxHeartbeats 4000000 in
theorem wtake_c (hg : w1.heap.size ≤ g) (hW : WkA w1 g ab n cb aD k cD p r l cc am m cm s c len took ar kr cr S F D M R W) (hkr : kr = R.length) (x : UInt8) (hr : rightJ c len took R.length = true) (hlt : took < len) (h1 : In64 len) (h2 : In64 took) (hc : OkC7 c) (hS : OkS S) (hn : n ≤ 100) (hD : D.length ≤ 100) (hR : R.length ≤ 1000000) :
    Calls Try.prog 29 #[.pointer (some ⟨g, 0, none⟩), .int .u8 (x.toNat : Int)] W fun e w' => ∃ v ab' cb' aD' k' cD' ar' cr', e = .returned v ∧ WkA w1 g ab' n cb' aD' k' cD' p r l cc am m cm s c len (tkR n F D p r cc c len took R S [x]).2.1 ar' (tkR n F D p r cc c len took R S [x]).2.2.length cr' (tkR n F D p r cc c len took R S [x]).1.2.2 (tkR n F D p r cc c len took R S [x]).1.1 (tkR n F D p r cc c len took R S [x]).1.2.1 M (tkR n F D p r cc c len took R S [x]).2.2 w' := by
  have HG := hide hg
  have HC := hide hc
  have HS := hide hS
  have HN := hide (And.intro hn hD)
  have HKr := hide hkr
  have HRt := hide hr
  have HLt := hide hlt
  have HI := hide (And.intro h1 h2)
  have hkr2 : kr ≤ 1000000 := by rw [hkr]; exact hR
  have hw1 : IntKind.i64.wrap (took + 1) = took + 1 := by unfold In64 at h1 h2; rw [IntKind.wrap_i64]; omega
  have h0 : 0 ≤ took := by
    obtain ⟨k, q1, rfl, q2, q3, q4⟩ := rightJ_some (show ¬ rightJ c len took R.length = false by rw [hr]; decide)
    exact q2
  have H0 := hide h0
  have HW := hide (hW.later ((Later.refl W).alloc (.cells #[.int .u8 (x.toNat : Int)] 5)))
  have BX : Hid (Box (W.alloc (.cells #[.int .u8 (x.toNat : Int)] 5)) W.heap.size 5 (bv [x])) := Box.new W 5 #[.int .u8 (x.toNat : Int)]
  have L0 := hide ((Later.refl W).alloc (.cells #[.int .u8 (x.toNat : Int)] 5))
  have hbx : Rw 1 (W.alloc (.cells #[.int .u8 (x.toNat : Int)] 5)) (.slice (some ⟨W.heap.size, 0, none⟩) 1 1) 1 (bv [x]) := (bs_of_box (n := 1) BX.out rfl rfl (by decide)).rw
  have z17 := hW.2.1.cell 17
  clear hg hc hS hn hD hr hlt h1 h2 h0 hkr hR
  go_enter Try.func29, Try.ntmps29
  go_wp2_with (at_builtin; go_loud (refine wpList_append_rw2 Try.elem_u8 Try.underlying36 rfl (by decide) rfl (.tmp 9) (.tmp 11) rfl w1.heap.size (.slice ar kr cr) kr (bv R) rfl HW.out.2.2.2.2.1 (.slice (some ⟨W.heap.size, 0, none⟩) 1 1) 1 (bv [x]) rfl hbx (bv_one _) ?c1 ?c2 ?c3 ?_))
  case c1 => omega
  case c2 => unfold maxLen; omega
  case c3 => exact HW.out.1.size
  intro v3 w3 ho hgr hbl
  obtain ⟨ar', cr', rfl⟩ := (Rw.of_owns ho).shape
  rw [← bv_append] at ho
  have HA := HW.out.append HG.out ar' (kr + 1) cr' (R ++ [x]) w3 hgr ho (fun b hb => (hbl b hb).imp id (fun h => by simpa using h))
  have HA1 := hide HA.1
  have HA2 := hide HA.2
  clear HA ho hgr hbl HW BX L0 z17
  go_wp2_with (refine wpList_storeV rfl 36 (.tmp 15) (.tmp 12) rfl g 17 rfl ar' (kr + 1) cr' rfl Try.info1_bytes10 _ _ HA2.out (by simp) ?_)
  intro w4 h4
  have HW : Hid (WkA w1 g ab n cb aD k cD p r l cc am m cm s c len took ar' (kr + 1) cr' S F D M (R ++ [x]) w4) := by rw [h4.out]; exact HA1.out
  clear HA1 HA2 h4
  have x16 := HW.out.2.1.cell 16
  go_wp2_with (refine wpList_storeI rfl 3 (.tmp 24) (.tmp 21) rfl g 16 rfl .i64 (took + 1) rfl Try.info1_int _ _ HW.out.2.1 (by simp) ?_)
  intro w5 hB5 h5
  have HA := HW.out.setTook HG.out (took + 1)
  rw [← h5.out] at HA
  replace HW := hide HA
  clear HA hB5 h5 x16
  have x17 := HW.out.2.1.cell 17
  have x10 := HW.out.2.1.cell 10
  by_cases h63 : kr = 63
  case neg =>
    have e1 : ((kr : Int) + 1 == 64) = false := by simp; omega
    have HT : Hid (tkR n F D p r cc c len took R S [x] = ((F, D, S), took + 1, R ++ [x])) := by
      cases hm : modeOp c.1 with
      | true => exact tk_mode1 HRt.out HLt.out hm
      | false => exact tk_blk HRt.out HLt.out hm (by rw [← HKr.out]; exact h63)
    go_wp2
    refine bodyPost_end (results_none rfl _ _ _) rfl ⟨_, ab, cb, aD, k, cD, ar', cr', rfl, ?_⟩
    rw [HT.out]
    have e : (R ++ [x]).length = kr + 1 := by rw [List.length_append, ← HKr.out]; rfl
    rw [e]
    exact HW.out
  subst h63
  go_wp2_with fail
  refine (jselects_c _ _).mono ?_
  rintro e w6 ⟨rfl, hw⟩
  have hw2 := hw.symm
  subst hw2
  clear hw
  cases hm : modeOp c.1 with
  | true =>
    have HT : Hid (tkR n F D p r cc c len took R S [x] = ((F, D, S), took + 1, R ++ [x])) := tk_mode1 HRt.out HLt.out hm
    clear hm
    go_wp2
    refine bodyPost_end (results_none rfl _ _ _) rfl ⟨_, ab, cb, aD, k, cD, ar', cr', rfl, ?_⟩
    rw [HT.out]
    have e : (R ++ [x]).length = 63 + 1 := by rw [List.length_append, ← HKr.out]; rfl
    rw [e]
    exact HW.out
  | false =>
    have HT := hide (tk_blk63 (n := n) (F := F) (D := D) (p := p) (r := r) (cc := cc) (S := S) (x := x) HRt.out HLt.out hm (by rw [← HKr.out]))
    have HQ := hide (tk_rest HRt.out hm)
    clear hm
    obtain ⟨b, cap, e, hb⟩ := owns_head HW.out.2.2.2.2.1 (by decide)
    have hl64 : (R ++ [x]).length = 64 := by rw [List.length_append, ← HKr.out]; rfl
    have H64 := hide hl64
    simp at e
    obtain ⟨rfl, rfl⟩ := e
    have hrg : w5.rangeAt b 0 (bv (R ++ [x])) := by
      obtain ⟨_, _, a', c', e', _, h⟩ := Rw.of_owns HW.out.2.2.2.2.1
      simp at e'
      obtain ⟨rfl, rfl⟩ := e'
      rcases h with h | ⟨b', o', e'', h⟩
      · cases h
      · simp at e''
        obtain ⟨rfl, rfl⟩ := e''
        exact h
    have HRg := hide hrg
    clear hrg hl64
    have hat : ∀ w, (Instr.arrayAt 58 (.slice (some ⟨b, 0, none⟩) 64 cr')).run Try.prog w = .ok (.pointer (some ⟨b, 0, none⟩)) w := fun w => run_arrayAt w 58 _ 64 _ 64 cr' Try.underlying58 (Nat.le_refl _)
    go_wp2_with (refine wpList_load_mid rfl 58 (.tmp 48) rfl b 0 rfl (bv (R ++ [x])) _ HRg.out Try.underlying58 rfl (by rw [Try.info_block, bv_length, H64.out]) ?_)
    refine (work_c HG.out HW.out (R ++ [x]) H64.out (took / 64).toNat (by have := HQ.out.2.2.1; have := HKr.out; have := H0.out; omega) (by have := H0.out; omega) (by have := HLt.out; have := HI.out.1; have := H0.out; unfold In64 at *; omega) HC.out HS.out HN.out.1 HN.out.2 HQ.out.2.2.2).mono ?_
    rintro e w6 ⟨v, a1, a2, a3, a4, a5, rfl, hw⟩
    replace HW := hide hw
    clear hw HRg hat x17 x10
    have x17 := HW.out.2.1.cell 17
    go_wp2_with (refine wpList_storeV rfl 36 (.tmp 60) (.tmp 57) rfl g 17 rfl (some ⟨b, 0, none⟩) 0 cr' rfl Try.info1_bytes10 _ _ HW.out.2.1 (by simp) ?_)
    intro w7 h7
    have HA := HW.out.rest HG.out (some ⟨b, 0, none⟩) 0 cr' [] (owns_empty HW.out.2.2.2.2.1) (fun b' hb' => HW.out.2.2.2.2.2 b' hb')
    rw [← h7.out] at HA
    go_wp2
    refine bodyPost_end (results_none rfl _ _ _) rfl ⟨_, a1, a2, a3, a4, a5, some ⟨b, 0, none⟩, cr', rfl, ?_⟩
    rw [HT.out]
    exact HA
end
end Go.Proofs.Ytbcikndebaeahaa
