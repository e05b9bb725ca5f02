import Derived.Test.YtccdgpadjfjoeaaWL6A
import Derived.Test.YtccdgpadjfjoeaaMAA
import Derived.Test.YtccdgpadjfjoeaaWR6s
namespace Go.Proofs.Ytccdgpadjfjoeaa
open Go.ChangeShapes Go.WideShapes Go.ChangeAt Go.RowKit
set_option linter.unusedVariables false
set_option linter.unusedSimpArgs false

/-! A command that comes in. -/
section
variable {H : Type} {enc : TypeId × Value → H} {w : World} {r : Reach} {base : Nat} {v : Value} {d : DataW H} {p : List MemPlace}
theorem Try.places_cmd : (Try.prog.fieldsOf 26).toList.map (fun f => (f.type, f.offset)) = [(3, 0), (24, 1), (3, 2), (3, 3), (3, 4)] := by kernel_rfl
theorem shape_cmd (fuel : Nat) (cs : List Value) (x : DataW H × List MemPlace) (h : DataW.trod enc Try.prog w 0 (fun _ => true) true fuel 26 cs = some x) : ∃ c : Cmd, OkC c ∧ cs = cc c := by
  obtain ⟨hl, m0, y0, h0⟩ := shape_field Try.is_cmd Try.places_cmd 0 _ _ rfl h
  obtain ⟨_, m1, y1, h1⟩ := shape_field Try.is_cmd Try.places_cmd 1 _ _ rfl h
  obtain ⟨_, m2, y2, h2⟩ := shape_field Try.is_cmd Try.places_cmd 2 _ _ rfl h
  obtain ⟨_, m3, y3, h3⟩ := shape_field Try.is_cmd Try.places_cmd 3 _ _ rfl h
  obtain ⟨_, m4, y4, h4⟩ := shape_field Try.is_cmd Try.places_cmd 4 _ _ rfl h
  rw [show Try.prog.cellsOf 26 = 5 from by kernel_rfl] at hl
  rw [show Try.prog.cellsOf 3 = 1 from by kernel_rfl] at h0 h2 h3 h4
  rw [show Try.prog.cellsOf 24 = 1 from by kernel_rfl] at h1
  obtain ⟨n0, e0, w0⟩ := shape_int Try.underlying3 h0
  obtain ⟨n1, e1, w1⟩ := shape_int Try.underlying24 h1
  obtain ⟨n2, e2, w2⟩ := shape_int Try.underlying3 h2
  obtain ⟨n3, e3, w3⟩ := shape_int Try.underlying3 h3
  obtain ⟨n4, e4, w4⟩ := shape_int Try.underlying3 h4
  have b1 := bounds_u64 w1
  obtain ⟨m, rfl⟩ : ∃ m : Nat, n1 = m := ⟨n1.toNat, by omega⟩
  refine ⟨(n0, m, n2, n3, n4), ⟨bounds_i64 w0, by simp only; omega, bounds_i64 w2, bounds_i64 w3, bounds_i64 w4⟩, ?_⟩
  match cs, hl with
  | [x0, x1, x2, x3, x4], _ =>
    simp at e0 e1 e2 e3 e4
    rw [e0, e1, e2, e3, e4]
def RCmd (v : Value) : Prop := ∃ c : Cmd, OkC c ∧ v = cval c
theorem rd_cmd (hv : Value.okWide Try.prog w r base 26 v) (h : DataW.Trod enc Try.prog w 0 (fun _ => true) true 26 v d p) : RCmd v := by
  obtain ⟨cs, rfl, _⟩ := okWide_struct Try.is_cmd hv
  obtain ⟨fuel, hf⟩ := h
  obtain ⟨c, hc, e⟩ := shape_cmd fuel _ _ hf
  exact ⟨c, hc, agg_of (show cs.toList = _ from e)⟩
end
set_option maxHeartbeats 2000000 in
theorem cdbBytes_ok (v0 : Value) (w : World) (h0 : RCmd v0) :
    Calls Try.prog 4 #[v0] w fun e w' => e = .returned (.bool true) ∧ Below w.heap.size w w' := by
  obtain ⟨c, hc, rfl⟩ := h0
  have HC := hide hc
  clear hc
  have BX := hide (Box.new w 26 #[.int .i64 c.1, .int .u64 (c.2.1 : Int), .int .i64 c.2.2.1, .int .i64 c.2.2.2.1, .int .i64 c.2.2.2.2])
  have LL := hide ((Later.refl w).alloc (.cells #[.int .i64 c.1, .int .u64 (c.2.1 : Int), .int .i64 c.2.2.1, .int .i64 c.2.2.2.1, .int .i64 c.2.2.2.2] 26))
  go_enter Try.func4, Try.ntmps4
  go_wp2_with fail
  refine (alive6_c _).mono ?_
  rintro e w1 ⟨rfl, hl⟩
  replace BX := hide (BX.out.later hl)
  replace LL := hide (LL.out.trans hl)
  clear hl
  have x0 := BX.out.cell 0
  have x1 := BX.out.cell 1
  have x2 := BX.out.cell 2
  have x3 := BX.out.cell 3
  have x4 := BX.out.cell 4
  go_wp2_with fail
  refine (bytes_c c _ HC.out).mono ?_
  rintro e w2 ⟨va, rfl, hl, ha⟩
  replace BX := hide (BX.out.later hl)
  replace LL := hide (LL.out.trans hl)
  have VA := hide ha
  clear hl ha x0 x1 x2 x3 x4
  have x0 := BX.out.cell 0
  have x1 := BX.out.cell 1
  have x2 := BX.out.cell 2
  have x3 := BX.out.cell 3
  have x4 := BX.out.cell 4
  go_wp2_with fail
  refine (rbytes6_c c _ HC.out).mono ?_
  rintro e w3 ⟨vb, rfl, hl, hb⟩
  replace LL := hide (LL.out.trans hl)
  replace VA := hide (VA.out.later hl)
  have g1 := VA.out.strOf
  have g2 := hb.strOf
  clear hl hb x0 x1 x2 x3 x4
  generalize bytesB c = z at *
  generalize strOf (bytesI c) = s at *
  go_wp2
  go_ret
  refine ⟨?_, LL.out⟩
  first | rfl | simp
end Go.Proofs.Ytccdgpadjfjoeaa
