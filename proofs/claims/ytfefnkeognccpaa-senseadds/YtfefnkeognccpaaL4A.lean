import Derived.Test.YtfefnkeognccpaaL4I
namespace Go.Proofs.Ytfefnkeognccpaa
open Go.ChangeShapes Go.WideShapes Go.ChangeAt Go.RowKit
set_option linter.unusedVariables false
set_option linter.unusedSimpArgs false

set_option maxRecDepth 20000 in
set_option maxHeartbeats 2000000 in
theorem senseAdds_walk (hal : Alive4) (iA : IAddS) (iF : IFirstS) (v0 v1 : Value) (w : World) (h0 : RSenses w v0) (h1 : RSense v1) :
    Calls Try.prog 5 #[v0, v1] w fun e w' => e = .returned (.bool true) ∧ Below w.heap.size w w' := by
  obtain ⟨M, hM⟩ := h0
  obtain ⟨s, hs, rfl⟩ := h1
  obtain ⟨am, n, cm, rfl, HN, hn⟩ := hM.shape
  have SM := hide hM
  have HS := hide hs
  clear hM hs
  have BX := hide (Box.new w 23 #[.int .i64 s.1, .int .i64 s.2.1, .int .i64 s.2.2])
  have L := hide ((Later.refl w).alloc (.cells #[.int .i64 s.1, .int .i64 s.2.1, .int .i64 s.2.2] 23))
  go_enter Try.func5, Try.ntmps5
  go_wp2_with fail
  refine (hal _).mono ?_
  rintro e w1 ⟨rfl, hl⟩
  replace BX := hide (BX.out.later hl)
  replace L := hide (L.out.later hl)
  clear hl
  by_cases h30 : 30 < n
  · go_wp2
    go_ret
    exact ⟨rfl, L.out⟩
  have hn30 : n ≤ 30 := by omega
  have SM1 := hide (SM.out.later L.out)
  have L1 := hide (L.out.alloc (.cells #[] 23))
  have O0 : Hid ((w1.alloc (.cells #[] 23)).ownsRow w1.heap.size 23 3 (.slice (some ⟨w1.heap.size, 0, none⟩) 0 0) 0 []) :=
    World.ownsRow_lit (base := w1.heap.size) (e := 23) (size := 3) w1 #[] 0 (Nat.le_refl _) (by simp [maxLen]) rfl
  have R0 : Hid (Rw 3 (w1.alloc (.cells #[] 23)) (.slice am n cm) n (sv M)) := by
    have := (SM1.out.later ((Later.refl w1).alloc (.cells #[] 23))).1
    rw [← HN.out] at this
    exact this
  go_wp2_with (at_builtin; refine wpList_append_rw Try.elem_sense Try.underlying34 rfl (by decide) rfl (.tmp 17) (.tmp 18) rfl w1.heap.size _ 0 [] rfl O0.out _ n (sv M) rfl R0.out (sv_one M) ?c1 ?c2 ?c3 w1 ((Later.refl w1).alloc (.cells #[] 23)) ?_)
  case c1 => omega
  case c2 => unfold maxLen; omega
  case c3 => simp
  intro vo w2 ho hl hg
  replace BX := hide (BX.out.later hl)
  replace L := hide (L.out.later hl)
  have OW : Hid (Sl w2 vo M) := by
    refine ⟨Rw.of_owns (base := w1.heap.size) (e := 23) ?_, SM.out.2⟩
    rw [← HN.out]
    simpa using ho
  clear ho hl hg O0 R0 L1 SM1
  obtain ⟨ao, no, co, rfl, HNo, hno⟩ := OW.out.shape
  have d0 := BX.out.cell 0
  have d1 := BX.out.cell 1
  have d2 := BX.out.cell 2
  go_wp2_with fail
  refine (iA _ M s _ OW.out HS.out (by have := HN.out; omega)).mono ?_
  rintro e w3 ⟨vx, rfl, hl, hx, hoff⟩
  replace BX := hide (BX.out.later hl)
  replace L := hide (L.out.later hl)
  replace OW := hide (OW.out.later hl)
  have X := hide hx
  clear hl hx hoff d0 d1 d2
  obtain ⟨ax, nx, cx, rfl, HNx, hnx⟩ := X.out.shape
  have d0 := BX.out.cell 0
  have d1 := BX.out.cell 1
  have d2 := BX.out.cell 2
  go_wp2_with fail
  refine (radd_c s _ (SM.out.later L.out) (by have := HN.out; omega)).mono ?_
  rintro e w4 ⟨vy, rfl, hl, hy⟩
  replace BX := hide (BX.out.later hl)
  replace L := hide (L.out.later hl)
  replace OW := hide (OW.out.later hl)
  replace X := hide (X.out.later hl)
  have Y := hide (hy.sl (addL_ok SM.out.2 HS.out))
  clear hl hy d0 d1 d2
  obtain ⟨ay, ny, cy, rfl, HNy, hny⟩ := Y.out.shape
  go_wp2_with fail
  refine (iF _ M _ OW.out (by have := HN.out; omega)).mono ?_
  rintro e w5 ⟨vb, rfl, hl, hb, hoff⟩
  replace BX := hide (BX.out.later hl)
  replace L := hide (L.out.later hl)
  replace OW := hide (OW.out.later hl)
  replace X := hide (X.out.later hl)
  replace Y := hide (Y.out.later hl)
  have B := hide hb
  clear hl hb hoff
  obtain ⟨ab, nb, cb, rfl, HNb, hnb⟩ := B.out.shape
  go_wp2_with (refine wpList_newS rfl rfl rfl 8 rfl (by simp) (.tmp 29) (by simp) rfl (headS M) rfl ?_)
  intro ga w6 hB hl hg
  replace BX := hide (BX.out.later hl)
  replace L := hide (L.out.later hl)
  replace OW := hide (OW.out.later hl)
  replace X := hide (X.out.later hl)
  replace Y := hide (Y.out.later hl)
  replace B := hide (B.out.later hl)
  have BA := hide hB
  clear hB hl hg
  go_wp2_with fail
  refine (rfirst_c _ (SM.out.later L.out) (by have := HN.out; omega)).mono ?_
  rintro e w7 ⟨vd, rfl, hl, hd⟩
  replace BX := hide (BX.out.later hl)
  replace L := hide (L.out.later hl)
  replace OW := hide (OW.out.later hl)
  replace X := hide (X.out.later hl)
  replace Y := hide (Y.out.later hl)
  replace B := hide (B.out.later hl)
  replace BA := hide (BA.out.later hl)
  have Dd := hide (hd.sl (tail_ok SM.out.2))
  clear hl hd
  obtain ⟨ad, nd, cd, rfl, HNd, hnd⟩ := Dd.out.shape
  go_wp2_with (refine wpList_newS rfl rfl rfl 10 rfl (by simp) (.tmp 34) (by simp) rfl (headS M) rfl ?_)
  intro gc w8 hB hl hg
  replace BX := hide (BX.out.later hl)
  replace L := hide (L.out.later hl)
  replace OW := hide (OW.out.later hl)
  replace X := hide (X.out.later hl)
  replace Y := hide (Y.out.later hl)
  replace B := hide (B.out.later hl)
  replace BA := hide (BA.out.later hl)
  replace Dd := hide (Dd.out.later hl)
  have BC := hide hB
  clear hB hl hg
  go_wp2_with fail
  refine (rsame4_c _ X.out Y.out).mono ?_
  rintro e w9 ⟨rfl, hl⟩
  replace L := hide (L.out.later hl)
  replace OW := hide (OW.out.later hl)
  replace B := hide (B.out.later hl)
  replace BA := hide (BA.out.later hl)
  replace Dd := hide (Dd.out.later hl)
  replace BC := hide (BC.out.later hl)
  clear hl
  rw [show (addL M s == addL M s) = true from by simp]
  have a0 := BA.out.cell 0
  have a1 := BA.out.cell 1
  have a2 := BA.out.cell 2
  have c0 := BC.out.cell 0
  have c1 := BC.out.cell 1
  have c2 := BC.out.cell 2
  go_wp2_with (refine wpList_eqS (by kernel_rfl) (.tmp 40) (.tmp 41) rfl (headS M) (headS M) rfl rfl ?_; rw [show (headS M == headS M) = true from by simp])
  clear a0 a1 a2 c0 c1 c2
  refine (rsame4_c _ B.out Dd.out).mono ?_
  rintro e w10 ⟨rfl, hl⟩
  replace L := hide (L.out.later hl)
  replace OW := hide (OW.out.later hl)
  clear hl
  rw [show (M.tail == M.tail) = true from by simp]
  go_wp2_with fail
  refine (rsame4_c _ OW.out (SM.out.later L.out)).mono ?_
  rintro e w11 ⟨rfl, hl⟩
  replace L := hide (L.out.later hl)
  clear hl
  rw [show (M == M) = true from by simp]
  go_wp2
  go_ret
  exact ⟨rfl, L.out⟩
end Go.Proofs.Ytfefnkeognccpaa
