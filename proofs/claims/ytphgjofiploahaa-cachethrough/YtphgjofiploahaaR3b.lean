import Derived.Test.YtphgjofiploahaaR3
import Derived.Test.YtphgjofiploahaaRow2
import Derived.Deep.WholeRow
namespace Go.Proofs.Ytphgjofiploahaa
open Go.ChangeShapes Go.WideShapes Go.ChangeAt Go.RowKit
set_option linter.unusedVariables false
set_option linter.unusedSimpArgs false

def z65 : Value := .agg (#[.int .i64 0] ++ Array.replicate 64 (.int .u8 0))
theorem z65_size : z65.cells.size = 65 := rfl
theorem Try.elem_dirty : Elem Try.prog 53 65 72 z65 := by
  have h : (Try.prog.info? 53).map (fun i => (i.zero, i.size, i.bytes)) = some (some z65, 65, 72) := by kernel_rfl
  obtain ⟨i, hi, h1, h2, h3⟩ := info_parts h
  exact ⟨i, hi, h1, h2, h3⟩

/-- the zero of a cached write, its cells behind a name of their own -/
def zc65 : Array Value := #[.int .i64 0] ++ Array.replicate 64 (.int .u8 0)
@[simp] theorem zc65_size : zc65.size = 65 := by unfold zc65; simp
@[simp] theorem zc65_ne : zc65 ≠ #[] := fun h => by have := congrArg Array.size h; simp at this
@[simp] theorem Try.zero_dirty_run (w : World) : Sem.run Try.prog (zeroValue 53) w = .ok (.agg zc65) w :=
  (zero_of_info (P := Try.prog) (n := 65) (by kernel_rfl)).1 w

theorem Med.later {w w' : World} {v : Value} {n : Nat} {F : List UInt8} {D : List Drt} (h : Med w v n F D) (hl : Later w w') : Med w' v n F D := by
  obtain ⟨vb, vd, rfl, hb, hd, hok⟩ := h
  exact ⟨vb, vd, rfl, hb.later hl, hd.later hl, hok⟩

theorem Rw.setCell_apart {sz : Nat} {w : World} {v : Value} {n : Nat} {xs : List Value} {a : Addr} {u u' : Value} (h : Rw sz w v n xs) (hc : w.cell? a = some u) (hu : u ∉ xs) : Rw sz (w.setCell a u') v n xs := by
  obtain ⟨h1, h2, a', cap, rfl, hcap, h3⟩ := h
  refine ⟨h1, h2, a', cap, rfl, hcap, ?_⟩
  rcases h3 with h3 | ⟨b, off, ha, hr⟩
  · exact .inl h3
  · refine .inr ⟨b, off, ha, fun j x hx => ?_⟩
    have hne : a ≠ ⟨b, off + j, none⟩ := fun e => by
      have := hr j x hx
      rw [← e, hc] at this
      cases this
      exact hu (List.mem_of_getElem? hx)
    rw [World.cell?_setCell_other _ _ _ _ hne]; exact hr j x hx
theorem bv_noslice (l : List UInt8) {a : Option Addr} {n c : Nat} : Value.slice a n c ∉ bv l := fun h => by
  obtain ⟨b, _, e⟩ := List.mem_map.1 h
  cases e
theorem dv_noslice (D : List Drt) {a : Option Addr} {n c : Nat} : Value.slice a n c ∉ dv D := fun h => by
  simp only [dv, List.mem_flatMap] at h
  obtain ⟨d, _, hd⟩ := h
  rcases List.mem_cons.1 hd with e | h
  · cases e
  · exact bv_noslice _ h

def greatB (n : Nat) (D : List Drt) : Bool := decide (70 < n ∨ 70 < D.length)
theorem rgreat_c {v : Value} {n : Nat} {F : List UInt8} {D : List Drt} (w : World) (h : Med w v n F D) :
    Calls Try.prog 9 #[v] w fun e w' => e = .returned (.bool (greatB n D)) ∧ Later w w' := by
  obtain ⟨vb, vd, rfl, hb, hd, hok⟩ := h
  obtain ⟨ab, cb, rfl⟩ := hb.shape
  obtain ⟨k, hk⟩ : ∃ k, k = D.length := ⟨_, rfl⟩
  rw [← hk] at hd
  obtain ⟨aD, cD, rfl⟩ := hd.shape
  have hn := hb.2.1
  have hkm := hd.2.1
  unfold maxLen at hn hkm
  unfold greatB
  rw [← hk]
  have L0 := hide ((Later.refl w).alloc (.cells #[.slice ab n cb, .slice aD k cD] 25))
  clear hb hd hk hok
  by_cases h1 : 70 < n
  · go_enter Try.func9, Try.ntmps9
    go_wp2
    go_ret
    exact ⟨ret_bool (by first | (simp; done) | (simp; omega) | (rw [Bool.eq_iff_iff]; simp; omega)), L0.out⟩
  · by_cases h2 : 70 < k
    · go_enter Try.func9, Try.ntmps9
      go_wp2
      go_ret
      exact ⟨ret_bool (by first | (simp; done) | (simp; omega) | (rw [Bool.eq_iff_iff]; simp; omega)), L0.out⟩
    · go_enter Try.func9, Try.ntmps9
      go_wp2
      go_ret
      exact ⟨ret_bool (by first | (simp; done) | (simp; omega) | (rw [Bool.eq_iff_iff]; simp; omega)), L0.out⟩

set_option maxHeartbeats 1000000 in
theorem rcopy3_c {v : Value} {n : Nat} {F : List UInt8} {D : List Drt} (w : World) (h : Med w v n F D) (hn' : n ≤ 1000) (hD' : D.length ≤ 1000) :
    Calls Try.prog 10 #[v] w fun e w' => ∃ v', e = .returned v' ∧ Later w w' ∧ Med w' v' n F D := by
  obtain ⟨vb, vd, rfl, hb, hd, hok⟩ := h
  obtain ⟨ab, cb, rfl⟩ := hb.shape
  obtain ⟨k, hk⟩ : ∃ k, k = D.length := ⟨_, rfl⟩
  rw [← hk] at hd hD'
  obtain ⟨aD, cD, rfl⟩ := hd.shape
  have HD := hide hd
  have HB := hide hb
  have HK := hide hk
  have HO := hide hok
  clear hb hd hk hok
  have BX0 := hide (Box.new w 25 #[.slice ab n cb, .slice aD k cD])
  have L0 := hide ((Later.refl w).alloc (.cells #[.slice ab n cb, .slice aD k cD] 25))
  go_enter Try.func10, Try.ntmps10
  go_wp2_with fail
  have BX := hide (BX0.out.alloc (.cells #[.slice none 0 0, .slice none 0 0] 25))
  have BR := hide (Box.new' (w.alloc (.cells #[.slice ab n cb, .slice aD k cD] 25)) 25 #[.slice none 0 0, .slice none 0 0] _ rfl (w.heap.size + 1) (by simp))
  have L1 := hide (L0.out.alloc (.cells #[.slice none 0 0, .slice none 0 0] 25))
  clear BX0 L0
  generalize ((w.alloc (.cells #[.slice ab n cb, .slice aD k cD] 25)).alloc (.cells #[.slice none 0 0, .slice none 0 0] 25)) = w1 at *
  have hc0 := fun r => (Box.later BX.out ((Later.refl w1).drew.trans (later_rg w1.drew r))).cell 0
  have hc1 := fun r => (Box.later BX.out ((Later.refl w1).drew.trans (later_rg w1.drew r))).cell 1
  refine wp_region_tree [0, 1, 4, 5] [2, 3, 6] [7, 8] (by kernel_rfl) (by kernel_rfl) (by kernel_rfl) (by kernel_rfl) ?_
  iterate 4 (refine wpT_mild rfl (fun K hK => ?_); go_simp; refine hK _ ?_; clear hK K)
  clear hc0 hc1
  refine wpT_bag (fun i => match i with | 6 => [2, 3] | _ => []) (fun i vals W => match i with
    | 2 => Rw 64 W (vals 2) n (bv F)
    | 3 => ∃ g, vals 3 = .slice (some ⟨g, 0, none⟩) 0 0 ∧ W.ownsRow w1.heap.size 53 65 (vals 3) 0 []
    | 6 => Rw 65 W (vals 6) k (dv D)
    | _ => True) (by kernel_rfl) ?b1 ?b2 ?b3 ?b4
  case b1 =>
    intro i hi vals W W' hl h
    simp only [List.mem_cons, List.not_mem_nil, or_false] at hi
    rcases hi with rfl | rfl | rfl
    · exact Rw.later h hl
    · obtain ⟨g, h1, h2⟩ := h; exact ⟨g, h1, owns_kept h2 fun g hg => hl.block g (h2.lt g hg).2⟩
    · exact Rw.later h hl
  case b2 =>
    intro i hi k hk hne hds vals v W h
    simp only [List.mem_cons, List.not_mem_nil, or_false] at hi hk
    rcases hi with rfl | rfl | rfl <;> rcases hk with rfl | rfl | rfl <;> first | (exact absurd rfl hne) | (simpa [upd] using h) | (simp at hds)
  case b3 =>
    intro i hi vals W hl hdep
    have L1W := (Later.refl w1).drew.trans hl
    have LW := hide (L1.out.trans L1W)
    simp only [List.mem_cons, List.not_mem_nil, or_false] at hi
    rcases hi with rfl | rfl | rfl
    · refine lVal_step rfl (fun K hK => ?_)
      simp only [putAll, List.foldl]
      go_simp
      refine (rcopy_c W W.heap.size (Nat.le_refl _) (HB.out.later LW.out) (by omega)).mono ?_
      rintro e w3 ⟨v3, rfl, hl3, ho3⟩
      exact ⟨v3, rfl, hl3, hK _ _ (by simpa [upd] using Rw.of_owns ho3)⟩
    · refine lVal_step rfl (fun K hK => ?_)
      simp only [putAll, List.foldl]
      go_simp
      refine ⟨(Later.refl W).alloc _, hK _ _ ⟨W.heap.size, by simp [upd], ?_⟩⟩
      have := World.ownsRow_lit (e := 53) (size := 65) W #[] 0 L1W.size (by simp [maxLen]) rfl
      simpa [upd] using this
    · obtain ⟨g, hg, ho⟩ := hdep 3 (by simp)
      rw [hg] at ho
      refine lVal_append_lit Try.elem_dirty Try.underlying23 z65_size (by decide) rfl rfl (.tmp 6) (.tmp 8) rfl w1.heap.size g ?_ ho L1W.size _ k (dv D) rfl (HD.out.later LW.out) (dv_one _) (by omega) ?_
      · show vals 3 = _
        exact hg
      · intro v' w' h
        simpa [upd] using Rw.of_owns h
  case b4 =>
    intro vals w7 hl hall
    have hw7 := (Later.refl w1).drew.trans hl
    have h2 : Rw 64 w7 (vals 2) n (bv F) := hall 2 (by simp)
    have h6 : Rw 65 w7 (vals 6) k (dv D) := hall 6 (by simp)
    generalize hv2 : vals 2 = v2 at *
    generalize hv6 : vals 6 = v6 at *
    have W6 := hide h2
    have V6 := hide h6
    obtain ⟨a3, c3, rfl⟩ := h2.shape
    obtain ⟨a6, c6, rfl⟩ := h6.shape
    have R6 := hide (Box.later BR.out hw7)
    have L6 := hide (L1.out.trans hw7)
    clear h2 h6 hall hl hw7
    have c0 := R6.out.cell 0
    have c1 := R6.out.cell 1
    have f0 := R6.out.frozen 0
    have f1 := R6.out.frozen 1
    refine wpL_cons rfl (fun K hK => ?_)
    simp only [putAll, List.foldl, dstOf]
    go_simp
    refine hK _ _ ?_
    clear hK K
    refine wpL_cons rfl (fun K hK => ?_)
    go_simp
    refine hK _ _ (wpL_nil ?_)
    clear hK K
    have R8 : Hid (Box ((w7.setCell ⟨w.heap.size + 1, 0, none⟩ (.slice a3 n c3)).setCell ⟨w.heap.size + 1, 1, none⟩ (.slice a6 k c6)) (w.heap.size + 1) 25 [.slice a3 n c3, .slice a6 k c6]) := (R6.out.set 0 _).set 1 _
    have L8 : Hid (Later w ((w7.setCell ⟨w.heap.size + 1, 0, none⟩ (.slice a3 n c3)).setCell ⟨w.heap.size + 1, 1, none⟩ (.slice a6 k c6))) := (L6.out.setCell (by simp) _).setCell (by simp) _
    have W8 : Hid (Rw 64 ((w7.setCell ⟨w.heap.size + 1, 0, none⟩ (.slice a3 n c3)).setCell ⟨w.heap.size + 1, 1, none⟩ (.slice a6 k c6)) (.slice a3 n c3) n (bv F)) :=
      (W6.out.setCell_apart c0 (bv_noslice F)).setCell_apart (u := .slice none 0 0) (by rw [(R6.out.set 0 _).cell 1]; rfl) (bv_noslice F)
    have V8 : Hid (Rw 65 ((w7.setCell ⟨w.heap.size + 1, 0, none⟩ (.slice a3 n c3)).setCell ⟨w.heap.size + 1, 1, none⟩ (.slice a6 k c6)) (.slice a6 k c6) k (dv D)) :=
      (V6.out.setCell_apart c0 (dv_noslice D)).setCell_apart (u := .slice none 0 0) (by rw [(R6.out.set 0 _).cell 1]; rfl) (dv_noslice D)
    clear c0 c1 f0 f1 L6 V6 W6 R6
    generalize ((w7.setCell ⟨w.heap.size + 1, 0, none⟩ (.slice a3 n c3)).setCell ⟨w.heap.size + 1, 1, none⟩ (.slice a6 k c6)) = w8 at *
    go_wp2
    refine bodyPost_ret (results_cell1 rfl _ _ _ (w.heap.size + 1) 0 rfl (.agg #[.slice a3 n c3, .slice a6 k c6]) (run_loadVar_mid _ _ _ _ [.slice a3 n c3, .slice a6 k c6] _ R8.out.range Try.underlying25 rfl (by kernel_rfl))) rfl ⟨_, rfl, L8.out, _, _, rfl, W8.out, ?_, HO.out⟩
    rw [← HK.out]
    exact V8.out
end Go.Proofs.Ytphgjofiploahaa
