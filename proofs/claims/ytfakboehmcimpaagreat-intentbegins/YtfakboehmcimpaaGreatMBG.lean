import Derived.Test.YtfakboehmcimpaaGreatMAM
import Derived.Test.YtfakboehmcimpaaGreatMAA
import Derived.Test.YtfakboehmcimpaaGreatMAH
import Derived.Test.YtfakboehmcimpaaGreatMAQ
import Derived.Test.YtfakboehmcimpaaGreatMAV
namespace Go.Proofs.YtfakboehmcimpaaGreat
open Go.ChangeShapes Go.WideShapes Go.ChangeAt Go.RowKit
set_option linter.unusedVariables false
set_option maxRecDepth 20000
set_option linter.unusedSimpArgs false
/-! Slots, and what is done to them, that come in. -/
section
variable {H : Type} {enc : TypeId × Value → H} {w : World} {r : Reach} {base : Nat} {v : Value} {d : DataW H} {p : List MemPlace}
theorem Tryz.is_slot : Tryz.prog.underlying 27 = some (.struct (Tryz.prog.fieldsOf 27)) := by kernel_rfl
theorem Tryz.places_slot : (Tryz.prog.fieldsOf 27).toList.map (fun f => (f.type, f.offset)) = [(25, 0), (4, 2), (4, 3), (4, 4)] := by kernel_rfl
end
end Go.Proofs.YtfakboehmcimpaaGreat

namespace Go.Proofs.YtfakboehmcimpaaGreat
open Go.ChangeShapes Go.WideShapes Go.ChangeAt Go.RowKit
set_option linter.unusedVariables false
set_option maxRecDepth 20000
set_option linter.unusedSimpArgs false
/-! A command that comes in. -/
section
variable {H : Type} {enc : TypeId × Value → H} {w : World} {r : Reach} {base : Nat} {v : Value} {d : DataW H} {p : List MemPlace}
theorem Tryz.places_cmd7 : (Tryz.prog.fieldsOf 36).toList.map (fun f => (f.type, f.offset)) = [(3, 0), (34, 1), (3, 2), (3, 3), (3, 4)] := by kernel_rfl
theorem shape_cmd7 (fuel : Nat) (cs : List Value) (x : DataW H × List MemPlace) (h : DataW.trod enc Tryz.prog w 0 (fun _ => true) true fuel 36 cs = some x) : ∃ c : Cmd, OkC7 c ∧ cs = cc c := by
  obtain ⟨hl, m0, y0, h0⟩ := shape_field Tryz.is_cmd Tryz.places_cmd7 0 _ _ rfl h
  obtain ⟨_, m1, y1, h1⟩ := shape_field Tryz.is_cmd Tryz.places_cmd7 1 _ _ rfl h
  obtain ⟨_, m2, y2, h2⟩ := shape_field Tryz.is_cmd Tryz.places_cmd7 2 _ _ rfl h
  obtain ⟨_, m3, y3, h3⟩ := shape_field Tryz.is_cmd Tryz.places_cmd7 3 _ _ rfl h
  obtain ⟨_, m4, y4, h4⟩ := shape_field Tryz.is_cmd Tryz.places_cmd7 4 _ _ rfl h
  rw [show Tryz.prog.cellsOf 36 = 5 from by kernel_rfl] at hl
  rw [show Tryz.prog.cellsOf 3 = 1 from by kernel_rfl] at h0 h2 h3 h4
  rw [show Tryz.prog.cellsOf 34 = 1 from by kernel_rfl] at h1
  obtain ⟨n0, e0, w0⟩ := shape_int Tryz.underlying3 h0
  obtain ⟨n1, e1, w1⟩ := shape_int Tryz.underlying34 h1
  obtain ⟨n2, e2, w2⟩ := shape_int Tryz.underlying3 h2
  obtain ⟨n3, e3, w3⟩ := shape_int Tryz.underlying3 h3
  obtain ⟨n4, e4, w4⟩ := shape_int Tryz.underlying3 h4
  have b1 := bounds_u64 w1
  obtain ⟨m, rfl⟩ : ∃ m : Nat, n1 = m := ⟨n1.toNat, by omega⟩
  refine ⟨(n0, m, n2, n3, n4), ⟨bounds_i64 w0, by simp only; omega, bounds_i64 w2, bounds_i64 w3, bounds_i64 w4⟩, ?_⟩
  match cs, hl with
  | [x0, x1, x2, x3, x4], _ =>
    simp at e0 e1 e2 e3 e4
    rw [e0, e1, e2, e3, e4]
def RCmd7 (v : Value) : Prop := ∃ c : Cmd, OkC7 c ∧ v = cval c
theorem rd_cmd7 (hv : Value.okWide Tryz.prog w r base 36 v) (h : DataW.Trod enc Tryz.prog w 0 (fun _ => true) true 36 v d p) : RCmd7 v := by
  obtain ⟨cs, rfl, _⟩ := okWide_struct Tryz.is_cmd hv
  obtain ⟨fuel, hf⟩ := h
  obtain ⟨c, hc, e⟩ := shape_cmd7 fuel _ _ hf
  exact ⟨c, hc, agg_of (show cs.toList = _ from e)⟩
end
end Go.Proofs.YtfakboehmcimpaaGreat

namespace Go.Proofs.YtfakboehmcimpaaGreat
open Go.ChangeShapes Go.WideShapes Go.ChangeAt Go.RowKit
set_option linter.unusedVariables false
set_option maxRecDepth 4000
set_option linter.unusedSimpArgs false
/-! JobParts' regions that draw: 'v, k := u, j' and 'x, y := job.Take(v, k, parts[i])'. -/
end Go.Proofs.YtfakboehmcimpaaGreat

namespace Go.Proofs.YtfakboehmcimpaaGreat
open Go.ChangeShapes Go.WideShapes Go.ChangeAt Go.RowKit
set_option linter.unusedVariables false
set_option maxRecDepth 4000
set_option linter.unusedSimpArgs false
/-! However the bytes come. -/
end Go.Proofs.YtfakboehmcimpaaGreat

namespace Go.Proofs.YtfakboehmcimpaaGreat
open Go.ChangeShapes Go.WideShapes Go.ChangeAt Go.RowKit
set_option linter.unusedVariables false
set_option maxRecDepth 4000
set_option linter.unusedSimpArgs false
/-! However the bytes come. -/
end Go.Proofs.YtfakboehmcimpaaGreat

namespace Go.Proofs.YtfakboehmcimpaaGreat
open Go.ChangeShapes Go.WideShapes Go.ChangeAt Go.RowKit
set_option linter.unusedVariables false
set_option maxRecDepth 20000
set_option linter.unusedSimpArgs false
/-! Units, jobs, and parts of bytes, that come in. -/
section
variable {H : Type} {enc : TypeId × Value → H} {w : World} {r : Reach} {base : Nat} {v : Value} {d : DataW H} {p : List MemPlace}
theorem shape_slot10 (fuel : Nat) (cs : List Value) (x : DataW H × List MemPlace) (h : DataW.trod enc Tryz.prog w 0 (fun _ => true) true fuel 27 cs = some x) :
    ∃ n F D b1 b2 b3 a c a' k c', cs = tc (.slice a n c) (.slice a' k c') b1 b2 b3 ∧ Med w (.agg #[.slice a n c, .slice a' k c']) n F D := by
  obtain ⟨hl, m0, y0, h0⟩ := shape_field Tryz.is_slot Tryz.places_slot 0 _ _ rfl h
  obtain ⟨_, m1, y1, h1⟩ := shape_field Tryz.is_slot Tryz.places_slot 1 _ _ rfl h
  obtain ⟨_, m2, y2, h2⟩ := shape_field Tryz.is_slot Tryz.places_slot 2 _ _ rfl h
  obtain ⟨_, m3, y3, h3⟩ := shape_field Tryz.is_slot Tryz.places_slot 3 _ _ rfl h
  rw [show Tryz.prog.cellsOf 27 = 5 from by kernel_rfl] at hl
  rw [show Tryz.prog.cellsOf 25 = 2 from by kernel_rfl] at h0
  rw [show Tryz.prog.cellsOf 4 = 1 from by kernel_rfl] at h1 h2 h3
  obtain ⟨vb, vd, n, F, D, e0, r0, r1, ho⟩ := shape_medium _ _ _ h0
  obtain ⟨b1, e1⟩ := shape_bool Tryz.underlying4 h1
  obtain ⟨b2, e2⟩ := shape_bool Tryz.underlying4 h2
  obtain ⟨b3, e3⟩ := shape_bool Tryz.underlying4 h3
  obtain ⟨a, c, rfl⟩ := r0.shape
  obtain ⟨a', c', rfl⟩ := r1.shape
  refine ⟨n, F, D, b1, b2, b3, a, c, a', D.length, c', ?_, _, _, rfl, r0, r1, ho⟩
  match cs, hl with
  | [x0, x1, x2, x3, x4], _ =>
    simp at e0 e1 e2 e3
    rw [e0.1, e0.2, e1, e2, e3]
theorem shape_senses10 (fuel : Nat) (cs : List Value) (x : DataW H × List MemPlace) (h : DataW.trod enc Tryz.prog w 0 (fun _ => true) true fuel 28 cs = some x) :
    ∃ am m cm M, cs = [.slice am m cm] ∧ Sl w (.slice am m cm) M ∧ m ≤ maxLen := by
  obtain ⟨v, css, rfl, h1, h2⟩ := shape_rows Tryz.underlying28 (sz := 3) (by kernel_rfl) (by decide) (fun cs => ∃ s : Sns, OkS s ∧ cs = sc s) (fun fuel cs x hx => shape_sense fuel cs x hx) fuel cs x h
  obtain ⟨L, hL, hok, hf⟩ := sv_flatten css (fun cs hcs => (h1 cs hcs).1)
  rw [hf, ← hL] at h2
  have hm := h2.2.1
  obtain ⟨a, c, rfl⟩ := h2.shape
  exact ⟨a, L.length, c, L, rfl, ⟨h2, hok⟩, hm⟩
theorem Tryz.is_unit : Tryz.prog.underlying 32 = some (.struct (Tryz.prog.fieldsOf 32)) := by kernel_rfl
theorem Tryz.places_unit : (Tryz.prog.fieldsOf 32).toList.map (fun f => (f.type, f.offset)) = [(27, 0), (4, 5), (28, 6), (30, 7)] := by kernel_rfl
def RUnit10 (w : World) (v : Value) : Prop := ∃ (ab : Option Addr) (n cb : Nat) (aD : Option Addr) (k cD : Nat) (F : List UInt8) (D : List Drt) (p r l cc : Bool) (am : Option Addr) (m cm : Nat) (s : Sns) (M : List Sns),
  v = uval ab n cb aD k cD p r l cc am m cm s ∧ Med w (.agg #[.slice ab n cb, .slice aD k cD]) n F D ∧ Sl w (.slice am m cm) M ∧ m ≤ maxLen ∧ OkS s
theorem rd_unit10 (hv : Value.okWide Tryz.prog w r base 32 v) (h : DataW.Trod enc Tryz.prog w 0 (fun _ => true) true 32 v d p) : RUnit10 w v := by
  obtain ⟨cs, rfl, _⟩ := okWide_struct Tryz.is_unit hv
  obtain ⟨fuel, hf⟩ := h
  obtain ⟨hl, m0, y0, h0⟩ := shape_field Tryz.is_unit Tryz.places_unit 0 _ _ rfl hf
  obtain ⟨_, m1, y1, h1⟩ := shape_field Tryz.is_unit Tryz.places_unit 1 _ _ rfl hf
  obtain ⟨_, m2, y2, h2⟩ := shape_field Tryz.is_unit Tryz.places_unit 2 _ _ rfl hf
  obtain ⟨_, m3, y3, h3⟩ := shape_field Tryz.is_unit Tryz.places_unit 3 _ _ rfl hf
  rw [show Tryz.prog.cellsOf 32 = 10 from by kernel_rfl] at hl
  rw [show Tryz.prog.cellsOf 27 = 5 from by kernel_rfl] at h0
  rw [show Tryz.prog.cellsOf 4 = 1 from by kernel_rfl] at h1
  rw [show Tryz.prog.cellsOf 28 = 1 from by kernel_rfl] at h2
  rw [show Tryz.prog.cellsOf 30 = 3 from by kernel_rfl] at h3
  obtain ⟨n, F, D, p1, p2, p3, a, c, a', k, c', e0, hm⟩ := shape_slot10 _ _ _ h0
  obtain ⟨b1, e1⟩ := shape_bool Tryz.underlying4 h1
  obtain ⟨am, m, cm, M, e2, hM, hmm⟩ := shape_senses10 _ _ _ h2
  obtain ⟨s, hs, e3⟩ := shape_sense _ _ _ h3
  have e : cs.toList = uc a n c a' k c' p1 p2 p3 b1 am m cm s := by
    change cs.toList.length = 10 at hl
    change (cs.toList.drop 0).take 5 = _ at e0
    change (cs.toList.drop 5).take 1 = _ at e1
    change (cs.toList.drop 6).take 1 = _ at e2
    change (cs.toList.drop 7).take 3 = _ at e3
    generalize cs.toList = L at *
    match L, hl with
    | [x0, x1, x2, x3, x4, x5, x6, x7, x8, x9], _ =>
      simp [sc] at e0 e1 e2 e3
      obtain ⟨q0, q1, q2, q3, q4⟩ := e0
      obtain ⟨q7, q8, q9⟩ := e3
      rw [q0, q1, q2, q3, q4, e1, e2, q7, q8, q9]
  exact ⟨a, n, c, a', k, c', F, D, p1, p2, p3, b1, am, m, cm, s, M, by rw [agg_of e], hm, hM, hmm, hs⟩
end
end Go.Proofs.YtfakboehmcimpaaGreat
