import Derived.Test.YtfakboehmcimpaaGreatMAN
namespace Go.Proofs.YtfakboehmcimpaaGreat
open Go.ChangeShapes Go.WideShapes Go.ChangeAt Go.RowKit
set_option linter.unusedVariables false
set_option maxRecDepth 4000
set_option linter.unusedSimpArgs false
/-! The document's mode: Page. -/
def vB (caching : Bool) (which : Int) : Bool := caching || which == 1 || which == 2
def vU (c : Bool) : UInt8 := if c then 4 else 0
def pg8 (c : Bool) : List UInt8 := [8, 18, vU c, 0, 0, 0, 0, 0, 0, 0, 0, 0, 0, 0, 0, 0, 0, 0, 0, 0]
def pg28 : List UInt8 := [28, 10, 0, 0, 0, 0, 0, 0, 0, 0, 0, 0]
def mpL (page which : Int) (caching : Bool) : List UInt8 := if page = 8 then pg8 (vB caching which) else if page = 28 then pg28 else if page = 63 then pg8 (vB caching which) ++ pg28 else []
def mpB (page : Int) : Bool := decide (page = 8 ∨ page = 28 ∨ page = 63)
/-- what is asked of a page's call -/
def MPag (f : FuncId) (page which : Int) (caching : Bool) : Prop := ∀ w : World, Calls Tryz.prog f #[.int .i64 page, .int .i64 which, .bool caching] w fun e w' => ∃ v, e = .returned (.tuple #[v, .bool (mpB page)]) ∧ Later w w' ∧ Bs w' v (mpL page which caching)
theorem rmp8_a (which : Int) : MPag 81 8 which true := by
  intro w
  have HL : Hid (mpL 8 which true = pg8 true) := by simp [Hid, mpL, vB, vU]
  go_enter Tryz.func81, Tryz.ntmps81
  go_wp2
  have BA : Hid (Box _ w.heap.size 121 (bv (pg8 true))) := (Box.new w 121 #[.int .u8 8, .int .u8 18, .int .u8 4, .int .u8 0, .int .u8 0, .int .u8 0, .int .u8 0, .int .u8 0, .int .u8 0, .int .u8 0, .int .u8 0, .int .u8 0, .int .u8 0, .int .u8 0, .int .u8 0, .int .u8 0, .int .u8 0, .int .u8 0, .int .u8 0, .int .u8 0]).alloc (.cells #[.int .u8 28, .int .u8 10, .int .u8 0, .int .u8 0, .int .u8 0, .int .u8 0, .int .u8 0, .int .u8 0, .int .u8 0, .int .u8 0, .int .u8 0, .int .u8 0] 122)
  have BB : Hid (Box _ (w.heap.size + 1) 122 (bv pg28)) := Box.new' (w.alloc (.cells #[.int .u8 8, .int .u8 18, .int .u8 4, .int .u8 0, .int .u8 0, .int .u8 0, .int .u8 0, .int .u8 0, .int .u8 0, .int .u8 0, .int .u8 0, .int .u8 0, .int .u8 0, .int .u8 0, .int .u8 0, .int .u8 0, .int .u8 0, .int .u8 0, .int .u8 0, .int .u8 0] 121)) 122 #[.int .u8 28, .int .u8 10, .int .u8 0, .int .u8 0, .int .u8 0, .int .u8 0, .int .u8 0, .int .u8 0, .int .u8 0, .int .u8 0, .int .u8 0, .int .u8 0] _ rfl _ (by simp)
  have LL := hide (((Later.refl w).alloc (.cells #[.int .u8 8, .int .u8 18, .int .u8 4, .int .u8 0, .int .u8 0, .int .u8 0, .int .u8 0, .int .u8 0, .int .u8 0, .int .u8 0, .int .u8 0, .int .u8 0, .int .u8 0, .int .u8 0, .int .u8 0, .int .u8 0, .int .u8 0, .int .u8 0, .int .u8 0, .int .u8 0] 121)).alloc (.cells #[.int .u8 28, .int .u8 10, .int .u8 0, .int .u8 0, .int .u8 0, .int .u8 0, .int .u8 0, .int .u8 0, .int .u8 0, .int .u8 0, .int .u8 0, .int .u8 0] 122))
  generalize ((w.alloc (.cells #[.int .u8 8, .int .u8 18, .int .u8 4, .int .u8 0, .int .u8 0, .int .u8 0, .int .u8 0, .int .u8 0, .int .u8 0, .int .u8 0, .int .u8 0, .int .u8 0, .int .u8 0, .int .u8 0, .int .u8 0, .int .u8 0, .int .u8 0, .int .u8 0, .int .u8 0, .int .u8 0] 121)).alloc (.cells #[.int .u8 28, .int .u8 10, .int .u8 0, .int .u8 0, .int .u8 0, .int .u8 0, .int .u8 0, .int .u8 0, .int .u8 0, .int .u8 0, .int .u8 0, .int .u8 0] 122)) = w2 at *
  go_ret2
  exact ⟨_, rfl, LL.out, by rw [HL.out]; exact bs_of_box BA.out rfl rfl (by decide)⟩
theorem rmp28_a (which : Int) : MPag 81 28 which true := by
  intro w
  have HL : Hid (mpL 28 which true = pg28) := rfl
  go_enter Tryz.func81, Tryz.ntmps81
  go_wp2
  have BA : Hid (Box _ w.heap.size 121 (bv (pg8 true))) := (Box.new w 121 #[.int .u8 8, .int .u8 18, .int .u8 4, .int .u8 0, .int .u8 0, .int .u8 0, .int .u8 0, .int .u8 0, .int .u8 0, .int .u8 0, .int .u8 0, .int .u8 0, .int .u8 0, .int .u8 0, .int .u8 0, .int .u8 0, .int .u8 0, .int .u8 0, .int .u8 0, .int .u8 0]).alloc (.cells #[.int .u8 28, .int .u8 10, .int .u8 0, .int .u8 0, .int .u8 0, .int .u8 0, .int .u8 0, .int .u8 0, .int .u8 0, .int .u8 0, .int .u8 0, .int .u8 0] 122)
  have BB : Hid (Box _ (w.heap.size + 1) 122 (bv pg28)) := Box.new' (w.alloc (.cells #[.int .u8 8, .int .u8 18, .int .u8 4, .int .u8 0, .int .u8 0, .int .u8 0, .int .u8 0, .int .u8 0, .int .u8 0, .int .u8 0, .int .u8 0, .int .u8 0, .int .u8 0, .int .u8 0, .int .u8 0, .int .u8 0, .int .u8 0, .int .u8 0, .int .u8 0, .int .u8 0] 121)) 122 #[.int .u8 28, .int .u8 10, .int .u8 0, .int .u8 0, .int .u8 0, .int .u8 0, .int .u8 0, .int .u8 0, .int .u8 0, .int .u8 0, .int .u8 0, .int .u8 0] _ rfl _ (by simp)
  have LL := hide (((Later.refl w).alloc (.cells #[.int .u8 8, .int .u8 18, .int .u8 4, .int .u8 0, .int .u8 0, .int .u8 0, .int .u8 0, .int .u8 0, .int .u8 0, .int .u8 0, .int .u8 0, .int .u8 0, .int .u8 0, .int .u8 0, .int .u8 0, .int .u8 0, .int .u8 0, .int .u8 0, .int .u8 0, .int .u8 0] 121)).alloc (.cells #[.int .u8 28, .int .u8 10, .int .u8 0, .int .u8 0, .int .u8 0, .int .u8 0, .int .u8 0, .int .u8 0, .int .u8 0, .int .u8 0, .int .u8 0, .int .u8 0] 122))
  generalize ((w.alloc (.cells #[.int .u8 8, .int .u8 18, .int .u8 4, .int .u8 0, .int .u8 0, .int .u8 0, .int .u8 0, .int .u8 0, .int .u8 0, .int .u8 0, .int .u8 0, .int .u8 0, .int .u8 0, .int .u8 0, .int .u8 0, .int .u8 0, .int .u8 0, .int .u8 0, .int .u8 0, .int .u8 0] 121)).alloc (.cells #[.int .u8 28, .int .u8 10, .int .u8 0, .int .u8 0, .int .u8 0, .int .u8 0, .int .u8 0, .int .u8 0, .int .u8 0, .int .u8 0, .int .u8 0, .int .u8 0] 122)) = w2 at *
  go_ret2
  exact ⟨_, rfl, LL.out, by rw [HL.out]; exact bs_of_box BB.out rfl rfl (by decide)⟩
theorem rmpx_a (which : Int) (page : Int) (h1 : page ≠ 8) (h2 : page ≠ 28) (h3 : page ≠ 63) : MPag 81 page which true := by
  intro w
  have HL : Hid (mpL page which true = []) := by simp [Hid, mpL, h1, h2, h3]
  have HB : Hid (mpB page = false) := by simp [Hid, mpB, h1, h2, h3]
  go_enter Tryz.func81, Tryz.ntmps81
  go_wp2
  have BA : Hid (Box _ w.heap.size 121 (bv (pg8 true))) := (Box.new w 121 #[.int .u8 8, .int .u8 18, .int .u8 4, .int .u8 0, .int .u8 0, .int .u8 0, .int .u8 0, .int .u8 0, .int .u8 0, .int .u8 0, .int .u8 0, .int .u8 0, .int .u8 0, .int .u8 0, .int .u8 0, .int .u8 0, .int .u8 0, .int .u8 0, .int .u8 0, .int .u8 0]).alloc (.cells #[.int .u8 28, .int .u8 10, .int .u8 0, .int .u8 0, .int .u8 0, .int .u8 0, .int .u8 0, .int .u8 0, .int .u8 0, .int .u8 0, .int .u8 0, .int .u8 0] 122)
  have BB : Hid (Box _ (w.heap.size + 1) 122 (bv pg28)) := Box.new' (w.alloc (.cells #[.int .u8 8, .int .u8 18, .int .u8 4, .int .u8 0, .int .u8 0, .int .u8 0, .int .u8 0, .int .u8 0, .int .u8 0, .int .u8 0, .int .u8 0, .int .u8 0, .int .u8 0, .int .u8 0, .int .u8 0, .int .u8 0, .int .u8 0, .int .u8 0, .int .u8 0, .int .u8 0] 121)) 122 #[.int .u8 28, .int .u8 10, .int .u8 0, .int .u8 0, .int .u8 0, .int .u8 0, .int .u8 0, .int .u8 0, .int .u8 0, .int .u8 0, .int .u8 0, .int .u8 0] _ rfl _ (by simp)
  have LL := hide (((Later.refl w).alloc (.cells #[.int .u8 8, .int .u8 18, .int .u8 4, .int .u8 0, .int .u8 0, .int .u8 0, .int .u8 0, .int .u8 0, .int .u8 0, .int .u8 0, .int .u8 0, .int .u8 0, .int .u8 0, .int .u8 0, .int .u8 0, .int .u8 0, .int .u8 0, .int .u8 0, .int .u8 0, .int .u8 0] 121)).alloc (.cells #[.int .u8 28, .int .u8 10, .int .u8 0, .int .u8 0, .int .u8 0, .int .u8 0, .int .u8 0, .int .u8 0, .int .u8 0, .int .u8 0, .int .u8 0, .int .u8 0] 122))
  generalize ((w.alloc (.cells #[.int .u8 8, .int .u8 18, .int .u8 4, .int .u8 0, .int .u8 0, .int .u8 0, .int .u8 0, .int .u8 0, .int .u8 0, .int .u8 0, .int .u8 0, .int .u8 0, .int .u8 0, .int .u8 0, .int .u8 0, .int .u8 0, .int .u8 0, .int .u8 0, .int .u8 0, .int .u8 0] 121)).alloc (.cells #[.int .u8 28, .int .u8 10, .int .u8 0, .int .u8 0, .int .u8 0, .int .u8 0, .int .u8 0, .int .u8 0, .int .u8 0, .int .u8 0, .int .u8 0, .int .u8 0] 122)) = w2 at *
  go_ret2
  rw [HL.out, HB.out]
  exact ⟨_, rfl, LL.out, Bs.nil _⟩
set_option maxHeartbeats 1000000 in
theorem rmp63_a (which : Int) : MPag 81 63 which true := by
  intro w
  have HL : Hid (mpL 63 which true = pg8 true ++ pg28) := by simp [Hid, mpL, vB, vU]
  go_enter Tryz.func81, Tryz.ntmps81
  go_wp2_with fail
  have BA : Hid (Box _ w.heap.size 121 (bv (pg8 true))) := (Box.new w 121 #[.int .u8 8, .int .u8 18, .int .u8 4, .int .u8 0, .int .u8 0, .int .u8 0, .int .u8 0, .int .u8 0, .int .u8 0, .int .u8 0, .int .u8 0, .int .u8 0, .int .u8 0, .int .u8 0, .int .u8 0, .int .u8 0, .int .u8 0, .int .u8 0, .int .u8 0, .int .u8 0]).alloc (.cells #[.int .u8 28, .int .u8 10, .int .u8 0, .int .u8 0, .int .u8 0, .int .u8 0, .int .u8 0, .int .u8 0, .int .u8 0, .int .u8 0, .int .u8 0, .int .u8 0] 122)
  have BB : Hid (Box _ (w.heap.size + 1) 122 (bv pg28)) := Box.new' (w.alloc (.cells #[.int .u8 8, .int .u8 18, .int .u8 4, .int .u8 0, .int .u8 0, .int .u8 0, .int .u8 0, .int .u8 0, .int .u8 0, .int .u8 0, .int .u8 0, .int .u8 0, .int .u8 0, .int .u8 0, .int .u8 0, .int .u8 0, .int .u8 0, .int .u8 0, .int .u8 0, .int .u8 0] 121)) 122 #[.int .u8 28, .int .u8 10, .int .u8 0, .int .u8 0, .int .u8 0, .int .u8 0, .int .u8 0, .int .u8 0, .int .u8 0, .int .u8 0, .int .u8 0, .int .u8 0] _ rfl _ (by simp)
  have LL := hide (((Later.refl w).alloc (.cells #[.int .u8 8, .int .u8 18, .int .u8 4, .int .u8 0, .int .u8 0, .int .u8 0, .int .u8 0, .int .u8 0, .int .u8 0, .int .u8 0, .int .u8 0, .int .u8 0, .int .u8 0, .int .u8 0, .int .u8 0, .int .u8 0, .int .u8 0, .int .u8 0, .int .u8 0, .int .u8 0] 121)).alloc (.cells #[.int .u8 28, .int .u8 10, .int .u8 0, .int .u8 0, .int .u8 0, .int .u8 0, .int .u8 0, .int .u8 0, .int .u8 0, .int .u8 0, .int .u8 0, .int .u8 0] 122))
  generalize ((w.alloc (.cells #[.int .u8 8, .int .u8 18, .int .u8 4, .int .u8 0, .int .u8 0, .int .u8 0, .int .u8 0, .int .u8 0, .int .u8 0, .int .u8 0, .int .u8 0, .int .u8 0, .int .u8 0, .int .u8 0, .int .u8 0, .int .u8 0, .int .u8 0, .int .u8 0, .int .u8 0, .int .u8 0] 121)).alloc (.cells #[.int .u8 28, .int .u8 10, .int .u8 0, .int .u8 0, .int .u8 0, .int .u8 0, .int .u8 0, .int .u8 0, .int .u8 0, .int .u8 0, .int .u8 0, .int .u8 0] 122)) = w2 at *
  refine wp_region_held (fun W => Later w2 W) (fun a b hl h => h.trans hl) (Later.refl _) [(1, false), (3, false), (0, true), (2, true), (4, true), (5, false), (6, false)] (by kernel_rfl) (by kernel_rfl) (by kernel_rfl) (by kernel_rfl) ?_
  haveI : Nonempty (Held (fun W => Later w2 W)) := ⟨⟨_, Later.refl _⟩⟩
  iterate 2 (refine wpJ_mild rfl (fun K hK => ?_); go_simp; refine hK _ ?_; clear hK K)
  refine wpJ_loud rfl (fun K hK w3 hw3 => ?_)
  go_simp
  have L3 : Hid (Later w2 (w3.alloc (.cells #[] 5))) := ((Later.refl w2).drew.trans hw3).alloc _
  have O3 : Hid ((w3.alloc (.cells #[] 5)).ownsRow w2.heap.size 5 1 (.slice (some ⟨w3.heap.size, 0, none⟩) 0 0) 0 (bv [])) := World.ownsRow_lit w3 #[] 0 ((Later.refl w2).drew.trans hw3).size (by simp [maxLen]) rfl
  refine ⟨L3.out, hK _ _ ?_⟩
  clear hK K hw3
  generalize w3.heap.size = g3 at *
  generalize w3.alloc (.cells #[] 5) = w4 at *
  refine wpJ_append8 rfl (by kernel_rfl) (.tmp 33) (.tmp 34) 40 rfl w2.heap.size g3 0 0 [] (pg8 true) rfl _ rfl O3.out (fun W hW => src_bs (bs_of_box (BA.out.later (L3.out.trans hW)) rfl rfl (by decide))) (by decide) L3.out.size (fun W hW => Below.trans L3.out hW) ?_
  intro g5 c5 w5 hB ho
  have L5 : Hid (Later w2 w5) := Below.trans L3.out hB
  have O5 := hide ho
  clear hB ho O3 L3
  refine wpJ_append8 rfl (by kernel_rfl) (.tmp 35) (.tmp 36) 40 rfl w2.heap.size g5 20 c5 (pg8 true) pg28 rfl _ rfl O5.out (fun W hW => src_bs (bs_of_box (BB.out.later (L5.out.trans hW)) rfl rfl (by decide))) (by decide) L5.out.size (fun W hW => Below.trans L5.out hW) ?_
  intro g6 c6 w6 hB ho
  have L6 : Hid (Later w2 w6) := Below.trans L5.out hB
  have V6 := hide (Bs.of_owns ho).1
  clear hB ho O5 L5
  iterate 2 (refine wpJ_mild rfl (fun K hK => ?_); go_simp; refine hK _ ?_; clear hK K)
  refine wpJ_nil (fun wn hn => ?_)
  have L7 := hide (LL.out.trans (L6.out.trans hn))
  have V7 := hide (V6.out.later hn)
  clear hn L6 V6 LL
  go_wp2
  go_ret2
  exact ⟨_, rfl, L7.out, by rw [HL.out]; exact V7.out⟩
theorem rmp8_b (w0 : World) : MPag 81 8 1 false := by
  intro w
  have HL : Hid (mpL 8 1 false = pg8 true) := by simp [Hid, mpL, vB, vU]
  go_enter Tryz.func81, Tryz.ntmps81
  go_wp2
  have BA : Hid (Box _ w.heap.size 121 (bv (pg8 true))) := (Box.new w 121 #[.int .u8 8, .int .u8 18, .int .u8 4, .int .u8 0, .int .u8 0, .int .u8 0, .int .u8 0, .int .u8 0, .int .u8 0, .int .u8 0, .int .u8 0, .int .u8 0, .int .u8 0, .int .u8 0, .int .u8 0, .int .u8 0, .int .u8 0, .int .u8 0, .int .u8 0, .int .u8 0]).alloc (.cells #[.int .u8 28, .int .u8 10, .int .u8 0, .int .u8 0, .int .u8 0, .int .u8 0, .int .u8 0, .int .u8 0, .int .u8 0, .int .u8 0, .int .u8 0, .int .u8 0] 122)
  have BB : Hid (Box _ (w.heap.size + 1) 122 (bv pg28)) := Box.new' (w.alloc (.cells #[.int .u8 8, .int .u8 18, .int .u8 4, .int .u8 0, .int .u8 0, .int .u8 0, .int .u8 0, .int .u8 0, .int .u8 0, .int .u8 0, .int .u8 0, .int .u8 0, .int .u8 0, .int .u8 0, .int .u8 0, .int .u8 0, .int .u8 0, .int .u8 0, .int .u8 0, .int .u8 0] 121)) 122 #[.int .u8 28, .int .u8 10, .int .u8 0, .int .u8 0, .int .u8 0, .int .u8 0, .int .u8 0, .int .u8 0, .int .u8 0, .int .u8 0, .int .u8 0, .int .u8 0] _ rfl _ (by simp)
  have LL := hide (((Later.refl w).alloc (.cells #[.int .u8 8, .int .u8 18, .int .u8 4, .int .u8 0, .int .u8 0, .int .u8 0, .int .u8 0, .int .u8 0, .int .u8 0, .int .u8 0, .int .u8 0, .int .u8 0, .int .u8 0, .int .u8 0, .int .u8 0, .int .u8 0, .int .u8 0, .int .u8 0, .int .u8 0, .int .u8 0] 121)).alloc (.cells #[.int .u8 28, .int .u8 10, .int .u8 0, .int .u8 0, .int .u8 0, .int .u8 0, .int .u8 0, .int .u8 0, .int .u8 0, .int .u8 0, .int .u8 0, .int .u8 0] 122))
  generalize ((w.alloc (.cells #[.int .u8 8, .int .u8 18, .int .u8 4, .int .u8 0, .int .u8 0, .int .u8 0, .int .u8 0, .int .u8 0, .int .u8 0, .int .u8 0, .int .u8 0, .int .u8 0, .int .u8 0, .int .u8 0, .int .u8 0, .int .u8 0, .int .u8 0, .int .u8 0, .int .u8 0, .int .u8 0] 121)).alloc (.cells #[.int .u8 28, .int .u8 10, .int .u8 0, .int .u8 0, .int .u8 0, .int .u8 0, .int .u8 0, .int .u8 0, .int .u8 0, .int .u8 0, .int .u8 0, .int .u8 0] 122)) = w2 at *
  go_ret2
  exact ⟨_, rfl, LL.out, by rw [HL.out]; exact bs_of_box BA.out rfl rfl (by decide)⟩
theorem rmp28_b (w0 : World) : MPag 81 28 1 false := by
  intro w
  have HL : Hid (mpL 28 1 false = pg28) := rfl
  go_enter Tryz.func81, Tryz.ntmps81
  go_wp2
  have BA : Hid (Box _ w.heap.size 121 (bv (pg8 true))) := (Box.new w 121 #[.int .u8 8, .int .u8 18, .int .u8 4, .int .u8 0, .int .u8 0, .int .u8 0, .int .u8 0, .int .u8 0, .int .u8 0, .int .u8 0, .int .u8 0, .int .u8 0, .int .u8 0, .int .u8 0, .int .u8 0, .int .u8 0, .int .u8 0, .int .u8 0, .int .u8 0, .int .u8 0]).alloc (.cells #[.int .u8 28, .int .u8 10, .int .u8 0, .int .u8 0, .int .u8 0, .int .u8 0, .int .u8 0, .int .u8 0, .int .u8 0, .int .u8 0, .int .u8 0, .int .u8 0] 122)
  have BB : Hid (Box _ (w.heap.size + 1) 122 (bv pg28)) := Box.new' (w.alloc (.cells #[.int .u8 8, .int .u8 18, .int .u8 4, .int .u8 0, .int .u8 0, .int .u8 0, .int .u8 0, .int .u8 0, .int .u8 0, .int .u8 0, .int .u8 0, .int .u8 0, .int .u8 0, .int .u8 0, .int .u8 0, .int .u8 0, .int .u8 0, .int .u8 0, .int .u8 0, .int .u8 0] 121)) 122 #[.int .u8 28, .int .u8 10, .int .u8 0, .int .u8 0, .int .u8 0, .int .u8 0, .int .u8 0, .int .u8 0, .int .u8 0, .int .u8 0, .int .u8 0, .int .u8 0] _ rfl _ (by simp)
  have LL := hide (((Later.refl w).alloc (.cells #[.int .u8 8, .int .u8 18, .int .u8 4, .int .u8 0, .int .u8 0, .int .u8 0, .int .u8 0, .int .u8 0, .int .u8 0, .int .u8 0, .int .u8 0, .int .u8 0, .int .u8 0, .int .u8 0, .int .u8 0, .int .u8 0, .int .u8 0, .int .u8 0, .int .u8 0, .int .u8 0] 121)).alloc (.cells #[.int .u8 28, .int .u8 10, .int .u8 0, .int .u8 0, .int .u8 0, .int .u8 0, .int .u8 0, .int .u8 0, .int .u8 0, .int .u8 0, .int .u8 0, .int .u8 0] 122))
  generalize ((w.alloc (.cells #[.int .u8 8, .int .u8 18, .int .u8 4, .int .u8 0, .int .u8 0, .int .u8 0, .int .u8 0, .int .u8 0, .int .u8 0, .int .u8 0, .int .u8 0, .int .u8 0, .int .u8 0, .int .u8 0, .int .u8 0, .int .u8 0, .int .u8 0, .int .u8 0, .int .u8 0, .int .u8 0] 121)).alloc (.cells #[.int .u8 28, .int .u8 10, .int .u8 0, .int .u8 0, .int .u8 0, .int .u8 0, .int .u8 0, .int .u8 0, .int .u8 0, .int .u8 0, .int .u8 0, .int .u8 0] 122)) = w2 at *
  go_ret2
  exact ⟨_, rfl, LL.out, by rw [HL.out]; exact bs_of_box BB.out rfl rfl (by decide)⟩
theorem rmpx_b (w0 : World) (page : Int) (h1 : page ≠ 8) (h2 : page ≠ 28) (h3 : page ≠ 63) : MPag 81 page 1 false := by
  intro w
  have HL : Hid (mpL page 1 false = []) := by simp [Hid, mpL, h1, h2, h3]
  have HB : Hid (mpB page = false) := by simp [Hid, mpB, h1, h2, h3]
  go_enter Tryz.func81, Tryz.ntmps81
  go_wp2
  have BA : Hid (Box _ w.heap.size 121 (bv (pg8 true))) := (Box.new w 121 #[.int .u8 8, .int .u8 18, .int .u8 4, .int .u8 0, .int .u8 0, .int .u8 0, .int .u8 0, .int .u8 0, .int .u8 0, .int .u8 0, .int .u8 0, .int .u8 0, .int .u8 0, .int .u8 0, .int .u8 0, .int .u8 0, .int .u8 0, .int .u8 0, .int .u8 0, .int .u8 0]).alloc (.cells #[.int .u8 28, .int .u8 10, .int .u8 0, .int .u8 0, .int .u8 0, .int .u8 0, .int .u8 0, .int .u8 0, .int .u8 0, .int .u8 0, .int .u8 0, .int .u8 0] 122)
  have BB : Hid (Box _ (w.heap.size + 1) 122 (bv pg28)) := Box.new' (w.alloc (.cells #[.int .u8 8, .int .u8 18, .int .u8 4, .int .u8 0, .int .u8 0, .int .u8 0, .int .u8 0, .int .u8 0, .int .u8 0, .int .u8 0, .int .u8 0, .int .u8 0, .int .u8 0, .int .u8 0, .int .u8 0, .int .u8 0, .int .u8 0, .int .u8 0, .int .u8 0, .int .u8 0] 121)) 122 #[.int .u8 28, .int .u8 10, .int .u8 0, .int .u8 0, .int .u8 0, .int .u8 0, .int .u8 0, .int .u8 0, .int .u8 0, .int .u8 0, .int .u8 0, .int .u8 0] _ rfl _ (by simp)
  have LL := hide (((Later.refl w).alloc (.cells #[.int .u8 8, .int .u8 18, .int .u8 4, .int .u8 0, .int .u8 0, .int .u8 0, .int .u8 0, .int .u8 0, .int .u8 0, .int .u8 0, .int .u8 0, .int .u8 0, .int .u8 0, .int .u8 0, .int .u8 0, .int .u8 0, .int .u8 0, .int .u8 0, .int .u8 0, .int .u8 0] 121)).alloc (.cells #[.int .u8 28, .int .u8 10, .int .u8 0, .int .u8 0, .int .u8 0, .int .u8 0, .int .u8 0, .int .u8 0, .int .u8 0, .int .u8 0, .int .u8 0, .int .u8 0] 122))
  generalize ((w.alloc (.cells #[.int .u8 8, .int .u8 18, .int .u8 4, .int .u8 0, .int .u8 0, .int .u8 0, .int .u8 0, .int .u8 0, .int .u8 0, .int .u8 0, .int .u8 0, .int .u8 0, .int .u8 0, .int .u8 0, .int .u8 0, .int .u8 0, .int .u8 0, .int .u8 0, .int .u8 0, .int .u8 0] 121)).alloc (.cells #[.int .u8 28, .int .u8 10, .int .u8 0, .int .u8 0, .int .u8 0, .int .u8 0, .int .u8 0, .int .u8 0, .int .u8 0, .int .u8 0, .int .u8 0, .int .u8 0] 122)) = w2 at *
  go_ret2
  rw [HL.out, HB.out]
  exact ⟨_, rfl, LL.out, Bs.nil _⟩
set_option maxHeartbeats 1000000 in
theorem rmp63_b (w0 : World) : MPag 81 63 1 false := by
  intro w
  have HL : Hid (mpL 63 1 false = pg8 true ++ pg28) := by simp [Hid, mpL, vB, vU]
  go_enter Tryz.func81, Tryz.ntmps81
  go_wp2_with fail
  have BA : Hid (Box _ w.heap.size 121 (bv (pg8 true))) := (Box.new w 121 #[.int .u8 8, .int .u8 18, .int .u8 4, .int .u8 0, .int .u8 0, .int .u8 0, .int .u8 0, .int .u8 0, .int .u8 0, .int .u8 0, .int .u8 0, .int .u8 0, .int .u8 0, .int .u8 0, .int .u8 0, .int .u8 0, .int .u8 0, .int .u8 0, .int .u8 0, .int .u8 0]).alloc (.cells #[.int .u8 28, .int .u8 10, .int .u8 0, .int .u8 0, .int .u8 0, .int .u8 0, .int .u8 0, .int .u8 0, .int .u8 0, .int .u8 0, .int .u8 0, .int .u8 0] 122)
  have BB : Hid (Box _ (w.heap.size + 1) 122 (bv pg28)) := Box.new' (w.alloc (.cells #[.int .u8 8, .int .u8 18, .int .u8 4, .int .u8 0, .int .u8 0, .int .u8 0, .int .u8 0, .int .u8 0, .int .u8 0, .int .u8 0, .int .u8 0, .int .u8 0, .int .u8 0, .int .u8 0, .int .u8 0, .int .u8 0, .int .u8 0, .int .u8 0, .int .u8 0, .int .u8 0] 121)) 122 #[.int .u8 28, .int .u8 10, .int .u8 0, .int .u8 0, .int .u8 0, .int .u8 0, .int .u8 0, .int .u8 0, .int .u8 0, .int .u8 0, .int .u8 0, .int .u8 0] _ rfl _ (by simp)
  have LL := hide (((Later.refl w).alloc (.cells #[.int .u8 8, .int .u8 18, .int .u8 4, .int .u8 0, .int .u8 0, .int .u8 0, .int .u8 0, .int .u8 0, .int .u8 0, .int .u8 0, .int .u8 0, .int .u8 0, .int .u8 0, .int .u8 0, .int .u8 0, .int .u8 0, .int .u8 0, .int .u8 0, .int .u8 0, .int .u8 0] 121)).alloc (.cells #[.int .u8 28, .int .u8 10, .int .u8 0, .int .u8 0, .int .u8 0, .int .u8 0, .int .u8 0, .int .u8 0, .int .u8 0, .int .u8 0, .int .u8 0, .int .u8 0] 122))
  generalize ((w.alloc (.cells #[.int .u8 8, .int .u8 18, .int .u8 4, .int .u8 0, .int .u8 0, .int .u8 0, .int .u8 0, .int .u8 0, .int .u8 0, .int .u8 0, .int .u8 0, .int .u8 0, .int .u8 0, .int .u8 0, .int .u8 0, .int .u8 0, .int .u8 0, .int .u8 0, .int .u8 0, .int .u8 0] 121)).alloc (.cells #[.int .u8 28, .int .u8 10, .int .u8 0, .int .u8 0, .int .u8 0, .int .u8 0, .int .u8 0, .int .u8 0, .int .u8 0, .int .u8 0, .int .u8 0, .int .u8 0] 122)) = w2 at *
  refine wp_region_held (fun W => Later w2 W) (fun a b hl h => h.trans hl) (Later.refl _) [(1, false), (3, false), (0, true), (2, true), (4, true), (5, false), (6, false)] (by kernel_rfl) (by kernel_rfl) (by kernel_rfl) (by kernel_rfl) ?_
  haveI : Nonempty (Held (fun W => Later w2 W)) := ⟨⟨_, Later.refl _⟩⟩
  iterate 2 (refine wpJ_mild rfl (fun K hK => ?_); go_simp; refine hK _ ?_; clear hK K)
  refine wpJ_loud rfl (fun K hK w3 hw3 => ?_)
  go_simp
  have L3 : Hid (Later w2 (w3.alloc (.cells #[] 5))) := ((Later.refl w2).drew.trans hw3).alloc _
  have O3 : Hid ((w3.alloc (.cells #[] 5)).ownsRow w2.heap.size 5 1 (.slice (some ⟨w3.heap.size, 0, none⟩) 0 0) 0 (bv [])) := World.ownsRow_lit w3 #[] 0 ((Later.refl w2).drew.trans hw3).size (by simp [maxLen]) rfl
  refine ⟨L3.out, hK _ _ ?_⟩
  clear hK K hw3
  generalize w3.heap.size = g3 at *
  generalize w3.alloc (.cells #[] 5) = w4 at *
  refine wpJ_append8 rfl (by kernel_rfl) (.tmp 33) (.tmp 34) 40 rfl w2.heap.size g3 0 0 [] (pg8 true) rfl _ rfl O3.out (fun W hW => src_bs (bs_of_box (BA.out.later (L3.out.trans hW)) rfl rfl (by decide))) (by decide) L3.out.size (fun W hW => Below.trans L3.out hW) ?_
  intro g5 c5 w5 hB ho
  have L5 : Hid (Later w2 w5) := Below.trans L3.out hB
  have O5 := hide ho
  clear hB ho O3 L3
  refine wpJ_append8 rfl (by kernel_rfl) (.tmp 35) (.tmp 36) 40 rfl w2.heap.size g5 20 c5 (pg8 true) pg28 rfl _ rfl O5.out (fun W hW => src_bs (bs_of_box (BB.out.later (L5.out.trans hW)) rfl rfl (by decide))) (by decide) L5.out.size (fun W hW => Below.trans L5.out hW) ?_
  intro g6 c6 w6 hB ho
  have L6 : Hid (Later w2 w6) := Below.trans L5.out hB
  have V6 := hide (Bs.of_owns ho).1
  clear hB ho O5 L5
  iterate 2 (refine wpJ_mild rfl (fun K hK => ?_); go_simp; refine hK _ ?_; clear hK K)
  refine wpJ_nil (fun wn hn => ?_)
  have L7 := hide (LL.out.trans (L6.out.trans hn))
  have V7 := hide (V6.out.later hn)
  clear hn L6 V6 LL
  go_wp2
  go_ret2
  exact ⟨_, rfl, L7.out, by rw [HL.out]; exact V7.out⟩
theorem rmp8_c (w0 : World) : MPag 81 8 2 false := by
  intro w
  have HL : Hid (mpL 8 2 false = pg8 true) := by simp [Hid, mpL, vB, vU]
  go_enter Tryz.func81, Tryz.ntmps81
  go_wp2
  have BA : Hid (Box _ w.heap.size 121 (bv (pg8 true))) := (Box.new w 121 #[.int .u8 8, .int .u8 18, .int .u8 4, .int .u8 0, .int .u8 0, .int .u8 0, .int .u8 0, .int .u8 0, .int .u8 0, .int .u8 0, .int .u8 0, .int .u8 0, .int .u8 0, .int .u8 0, .int .u8 0, .int .u8 0, .int .u8 0, .int .u8 0, .int .u8 0, .int .u8 0]).alloc (.cells #[.int .u8 28, .int .u8 10, .int .u8 0, .int .u8 0, .int .u8 0, .int .u8 0, .int .u8 0, .int .u8 0, .int .u8 0, .int .u8 0, .int .u8 0, .int .u8 0] 122)
  have BB : Hid (Box _ (w.heap.size + 1) 122 (bv pg28)) := Box.new' (w.alloc (.cells #[.int .u8 8, .int .u8 18, .int .u8 4, .int .u8 0, .int .u8 0, .int .u8 0, .int .u8 0, .int .u8 0, .int .u8 0, .int .u8 0, .int .u8 0, .int .u8 0, .int .u8 0, .int .u8 0, .int .u8 0, .int .u8 0, .int .u8 0, .int .u8 0, .int .u8 0, .int .u8 0] 121)) 122 #[.int .u8 28, .int .u8 10, .int .u8 0, .int .u8 0, .int .u8 0, .int .u8 0, .int .u8 0, .int .u8 0, .int .u8 0, .int .u8 0, .int .u8 0, .int .u8 0] _ rfl _ (by simp)
  have LL := hide (((Later.refl w).alloc (.cells #[.int .u8 8, .int .u8 18, .int .u8 4, .int .u8 0, .int .u8 0, .int .u8 0, .int .u8 0, .int .u8 0, .int .u8 0, .int .u8 0, .int .u8 0, .int .u8 0, .int .u8 0, .int .u8 0, .int .u8 0, .int .u8 0, .int .u8 0, .int .u8 0, .int .u8 0, .int .u8 0] 121)).alloc (.cells #[.int .u8 28, .int .u8 10, .int .u8 0, .int .u8 0, .int .u8 0, .int .u8 0, .int .u8 0, .int .u8 0, .int .u8 0, .int .u8 0, .int .u8 0, .int .u8 0] 122))
  generalize ((w.alloc (.cells #[.int .u8 8, .int .u8 18, .int .u8 4, .int .u8 0, .int .u8 0, .int .u8 0, .int .u8 0, .int .u8 0, .int .u8 0, .int .u8 0, .int .u8 0, .int .u8 0, .int .u8 0, .int .u8 0, .int .u8 0, .int .u8 0, .int .u8 0, .int .u8 0, .int .u8 0, .int .u8 0] 121)).alloc (.cells #[.int .u8 28, .int .u8 10, .int .u8 0, .int .u8 0, .int .u8 0, .int .u8 0, .int .u8 0, .int .u8 0, .int .u8 0, .int .u8 0, .int .u8 0, .int .u8 0] 122)) = w2 at *
  go_ret2
  exact ⟨_, rfl, LL.out, by rw [HL.out]; exact bs_of_box BA.out rfl rfl (by decide)⟩
theorem rmp28_c (w0 : World) : MPag 81 28 2 false := by
  intro w
  have HL : Hid (mpL 28 2 false = pg28) := rfl
  go_enter Tryz.func81, Tryz.ntmps81
  go_wp2
  have BA : Hid (Box _ w.heap.size 121 (bv (pg8 true))) := (Box.new w 121 #[.int .u8 8, .int .u8 18, .int .u8 4, .int .u8 0, .int .u8 0, .int .u8 0, .int .u8 0, .int .u8 0, .int .u8 0, .int .u8 0, .int .u8 0, .int .u8 0, .int .u8 0, .int .u8 0, .int .u8 0, .int .u8 0, .int .u8 0, .int .u8 0, .int .u8 0, .int .u8 0]).alloc (.cells #[.int .u8 28, .int .u8 10, .int .u8 0, .int .u8 0, .int .u8 0, .int .u8 0, .int .u8 0, .int .u8 0, .int .u8 0, .int .u8 0, .int .u8 0, .int .u8 0] 122)
  have BB : Hid (Box _ (w.heap.size + 1) 122 (bv pg28)) := Box.new' (w.alloc (.cells #[.int .u8 8, .int .u8 18, .int .u8 4, .int .u8 0, .int .u8 0, .int .u8 0, .int .u8 0, .int .u8 0, .int .u8 0, .int .u8 0, .int .u8 0, .int .u8 0, .int .u8 0, .int .u8 0, .int .u8 0, .int .u8 0, .int .u8 0, .int .u8 0, .int .u8 0, .int .u8 0] 121)) 122 #[.int .u8 28, .int .u8 10, .int .u8 0, .int .u8 0, .int .u8 0, .int .u8 0, .int .u8 0, .int .u8 0, .int .u8 0, .int .u8 0, .int .u8 0, .int .u8 0] _ rfl _ (by simp)
  have LL := hide (((Later.refl w).alloc (.cells #[.int .u8 8, .int .u8 18, .int .u8 4, .int .u8 0, .int .u8 0, .int .u8 0, .int .u8 0, .int .u8 0, .int .u8 0, .int .u8 0, .int .u8 0, .int .u8 0, .int .u8 0, .int .u8 0, .int .u8 0, .int .u8 0, .int .u8 0, .int .u8 0, .int .u8 0, .int .u8 0] 121)).alloc (.cells #[.int .u8 28, .int .u8 10, .int .u8 0, .int .u8 0, .int .u8 0, .int .u8 0, .int .u8 0, .int .u8 0, .int .u8 0, .int .u8 0, .int .u8 0, .int .u8 0] 122))
  generalize ((w.alloc (.cells #[.int .u8 8, .int .u8 18, .int .u8 4, .int .u8 0, .int .u8 0, .int .u8 0, .int .u8 0, .int .u8 0, .int .u8 0, .int .u8 0, .int .u8 0, .int .u8 0, .int .u8 0, .int .u8 0, .int .u8 0, .int .u8 0, .int .u8 0, .int .u8 0, .int .u8 0, .int .u8 0] 121)).alloc (.cells #[.int .u8 28, .int .u8 10, .int .u8 0, .int .u8 0, .int .u8 0, .int .u8 0, .int .u8 0, .int .u8 0, .int .u8 0, .int .u8 0, .int .u8 0, .int .u8 0] 122)) = w2 at *
  go_ret2
  exact ⟨_, rfl, LL.out, by rw [HL.out]; exact bs_of_box BB.out rfl rfl (by decide)⟩
theorem rmpx_c (w0 : World) (page : Int) (h1 : page ≠ 8) (h2 : page ≠ 28) (h3 : page ≠ 63) : MPag 81 page 2 false := by
  intro w
  have HL : Hid (mpL page 2 false = []) := by simp [Hid, mpL, h1, h2, h3]
  have HB : Hid (mpB page = false) := by simp [Hid, mpB, h1, h2, h3]
  go_enter Tryz.func81, Tryz.ntmps81
  go_wp2
  have BA : Hid (Box _ w.heap.size 121 (bv (pg8 true))) := (Box.new w 121 #[.int .u8 8, .int .u8 18, .int .u8 4, .int .u8 0, .int .u8 0, .int .u8 0, .int .u8 0, .int .u8 0, .int .u8 0, .int .u8 0, .int .u8 0, .int .u8 0, .int .u8 0, .int .u8 0, .int .u8 0, .int .u8 0, .int .u8 0, .int .u8 0, .int .u8 0, .int .u8 0]).alloc (.cells #[.int .u8 28, .int .u8 10, .int .u8 0, .int .u8 0, .int .u8 0, .int .u8 0, .int .u8 0, .int .u8 0, .int .u8 0, .int .u8 0, .int .u8 0, .int .u8 0] 122)
  have BB : Hid (Box _ (w.heap.size + 1) 122 (bv pg28)) := Box.new' (w.alloc (.cells #[.int .u8 8, .int .u8 18, .int .u8 4, .int .u8 0, .int .u8 0, .int .u8 0, .int .u8 0, .int .u8 0, .int .u8 0, .int .u8 0, .int .u8 0, .int .u8 0, .int .u8 0, .int .u8 0, .int .u8 0, .int .u8 0, .int .u8 0, .int .u8 0, .int .u8 0, .int .u8 0] 121)) 122 #[.int .u8 28, .int .u8 10, .int .u8 0, .int .u8 0, .int .u8 0, .int .u8 0, .int .u8 0, .int .u8 0, .int .u8 0, .int .u8 0, .int .u8 0, .int .u8 0] _ rfl _ (by simp)
  have LL := hide (((Later.refl w).alloc (.cells #[.int .u8 8, .int .u8 18, .int .u8 4, .int .u8 0, .int .u8 0, .int .u8 0, .int .u8 0, .int .u8 0, .int .u8 0, .int .u8 0, .int .u8 0, .int .u8 0, .int .u8 0, .int .u8 0, .int .u8 0, .int .u8 0, .int .u8 0, .int .u8 0, .int .u8 0, .int .u8 0] 121)).alloc (.cells #[.int .u8 28, .int .u8 10, .int .u8 0, .int .u8 0, .int .u8 0, .int .u8 0, .int .u8 0, .int .u8 0, .int .u8 0, .int .u8 0, .int .u8 0, .int .u8 0] 122))
  generalize ((w.alloc (.cells #[.int .u8 8, .int .u8 18, .int .u8 4, .int .u8 0, .int .u8 0, .int .u8 0, .int .u8 0, .int .u8 0, .int .u8 0, .int .u8 0, .int .u8 0, .int .u8 0, .int .u8 0, .int .u8 0, .int .u8 0, .int .u8 0, .int .u8 0, .int .u8 0, .int .u8 0, .int .u8 0] 121)).alloc (.cells #[.int .u8 28, .int .u8 10, .int .u8 0, .int .u8 0, .int .u8 0, .int .u8 0, .int .u8 0, .int .u8 0, .int .u8 0, .int .u8 0, .int .u8 0, .int .u8 0] 122)) = w2 at *
  go_ret2
  rw [HL.out, HB.out]
  exact ⟨_, rfl, LL.out, Bs.nil _⟩
set_option maxHeartbeats 1000000 in
theorem rmp63_c (w0 : World) : MPag 81 63 2 false := by
  intro w
  have HL : Hid (mpL 63 2 false = pg8 true ++ pg28) := by simp [Hid, mpL, vB, vU]
  go_enter Tryz.func81, Tryz.ntmps81
  go_wp2_with fail
  have BA : Hid (Box _ w.heap.size 121 (bv (pg8 true))) := (Box.new w 121 #[.int .u8 8, .int .u8 18, .int .u8 4, .int .u8 0, .int .u8 0, .int .u8 0, .int .u8 0, .int .u8 0, .int .u8 0, .int .u8 0, .int .u8 0, .int .u8 0, .int .u8 0, .int .u8 0, .int .u8 0, .int .u8 0, .int .u8 0, .int .u8 0, .int .u8 0, .int .u8 0]).alloc (.cells #[.int .u8 28, .int .u8 10, .int .u8 0, .int .u8 0, .int .u8 0, .int .u8 0, .int .u8 0, .int .u8 0, .int .u8 0, .int .u8 0, .int .u8 0, .int .u8 0] 122)
  have BB : Hid (Box _ (w.heap.size + 1) 122 (bv pg28)) := Box.new' (w.alloc (.cells #[.int .u8 8, .int .u8 18, .int .u8 4, .int .u8 0, .int .u8 0, .int .u8 0, .int .u8 0, .int .u8 0, .int .u8 0, .int .u8 0, .int .u8 0, .int .u8 0, .int .u8 0, .int .u8 0, .int .u8 0, .int .u8 0, .int .u8 0, .int .u8 0, .int .u8 0, .int .u8 0] 121)) 122 #[.int .u8 28, .int .u8 10, .int .u8 0, .int .u8 0, .int .u8 0, .int .u8 0, .int .u8 0, .int .u8 0, .int .u8 0, .int .u8 0, .int .u8 0, .int .u8 0] _ rfl _ (by simp)
  have LL := hide (((Later.refl w).alloc (.cells #[.int .u8 8, .int .u8 18, .int .u8 4, .int .u8 0, .int .u8 0, .int .u8 0, .int .u8 0, .int .u8 0, .int .u8 0, .int .u8 0, .int .u8 0, .int .u8 0, .int .u8 0, .int .u8 0, .int .u8 0, .int .u8 0, .int .u8 0, .int .u8 0, .int .u8 0, .int .u8 0] 121)).alloc (.cells #[.int .u8 28, .int .u8 10, .int .u8 0, .int .u8 0, .int .u8 0, .int .u8 0, .int .u8 0, .int .u8 0, .int .u8 0, .int .u8 0, .int .u8 0, .int .u8 0] 122))
  generalize ((w.alloc (.cells #[.int .u8 8, .int .u8 18, .int .u8 4, .int .u8 0, .int .u8 0, .int .u8 0, .int .u8 0, .int .u8 0, .int .u8 0, .int .u8 0, .int .u8 0, .int .u8 0, .int .u8 0, .int .u8 0, .int .u8 0, .int .u8 0, .int .u8 0, .int .u8 0, .int .u8 0, .int .u8 0] 121)).alloc (.cells #[.int .u8 28, .int .u8 10, .int .u8 0, .int .u8 0, .int .u8 0, .int .u8 0, .int .u8 0, .int .u8 0, .int .u8 0, .int .u8 0, .int .u8 0, .int .u8 0] 122)) = w2 at *
  refine wp_region_held (fun W => Later w2 W) (fun a b hl h => h.trans hl) (Later.refl _) [(1, false), (3, false), (0, true), (2, true), (4, true), (5, false), (6, false)] (by kernel_rfl) (by kernel_rfl) (by kernel_rfl) (by kernel_rfl) ?_
  haveI : Nonempty (Held (fun W => Later w2 W)) := ⟨⟨_, Later.refl _⟩⟩
  iterate 2 (refine wpJ_mild rfl (fun K hK => ?_); go_simp; refine hK _ ?_; clear hK K)
  refine wpJ_loud rfl (fun K hK w3 hw3 => ?_)
  go_simp
  have L3 : Hid (Later w2 (w3.alloc (.cells #[] 5))) := ((Later.refl w2).drew.trans hw3).alloc _
  have O3 : Hid ((w3.alloc (.cells #[] 5)).ownsRow w2.heap.size 5 1 (.slice (some ⟨w3.heap.size, 0, none⟩) 0 0) 0 (bv [])) := World.ownsRow_lit w3 #[] 0 ((Later.refl w2).drew.trans hw3).size (by simp [maxLen]) rfl
  refine ⟨L3.out, hK _ _ ?_⟩
  clear hK K hw3
  generalize w3.heap.size = g3 at *
  generalize w3.alloc (.cells #[] 5) = w4 at *
  refine wpJ_append8 rfl (by kernel_rfl) (.tmp 33) (.tmp 34) 40 rfl w2.heap.size g3 0 0 [] (pg8 true) rfl _ rfl O3.out (fun W hW => src_bs (bs_of_box (BA.out.later (L3.out.trans hW)) rfl rfl (by decide))) (by decide) L3.out.size (fun W hW => Below.trans L3.out hW) ?_
  intro g5 c5 w5 hB ho
  have L5 : Hid (Later w2 w5) := Below.trans L3.out hB
  have O5 := hide ho
  clear hB ho O3 L3
  refine wpJ_append8 rfl (by kernel_rfl) (.tmp 35) (.tmp 36) 40 rfl w2.heap.size g5 20 c5 (pg8 true) pg28 rfl _ rfl O5.out (fun W hW => src_bs (bs_of_box (BB.out.later (L5.out.trans hW)) rfl rfl (by decide))) (by decide) L5.out.size (fun W hW => Below.trans L5.out hW) ?_
  intro g6 c6 w6 hB ho
  have L6 : Hid (Later w2 w6) := Below.trans L5.out hB
  have V6 := hide (Bs.of_owns ho).1
  clear hB ho O5 L5
  iterate 2 (refine wpJ_mild rfl (fun K hK => ?_); go_simp; refine hK _ ?_; clear hK K)
  refine wpJ_nil (fun wn hn => ?_)
  have L7 := hide (LL.out.trans (L6.out.trans hn))
  have V7 := hide (V6.out.later hn)
  clear hn L6 V6 LL
  go_wp2
  go_ret2
  exact ⟨_, rfl, L7.out, by rw [HL.out]; exact V7.out⟩
theorem rmp8_d (which : Int) (hw1 : (which == 1) = false) (hw2 : (which == 2) = false) : MPag 81 8 which false := by
  intro w
  have HL : Hid (mpL 8 which false = pg8 false) := by simp [Hid, mpL, vB, hw1, hw2]
  go_enter Tryz.func81, Tryz.ntmps81
  go_wp2
  have BA : Hid (Box _ w.heap.size 121 (bv (pg8 false))) := (Box.new w 121 #[.int .u8 8, .int .u8 18, .int .u8 0, .int .u8 0, .int .u8 0, .int .u8 0, .int .u8 0, .int .u8 0, .int .u8 0, .int .u8 0, .int .u8 0, .int .u8 0, .int .u8 0, .int .u8 0, .int .u8 0, .int .u8 0, .int .u8 0, .int .u8 0, .int .u8 0, .int .u8 0]).alloc (.cells #[.int .u8 28, .int .u8 10, .int .u8 0, .int .u8 0, .int .u8 0, .int .u8 0, .int .u8 0, .int .u8 0, .int .u8 0, .int .u8 0, .int .u8 0, .int .u8 0] 122)
  have BB : Hid (Box _ (w.heap.size + 1) 122 (bv pg28)) := Box.new' (w.alloc (.cells #[.int .u8 8, .int .u8 18, .int .u8 0, .int .u8 0, .int .u8 0, .int .u8 0, .int .u8 0, .int .u8 0, .int .u8 0, .int .u8 0, .int .u8 0, .int .u8 0, .int .u8 0, .int .u8 0, .int .u8 0, .int .u8 0, .int .u8 0, .int .u8 0, .int .u8 0, .int .u8 0] 121)) 122 #[.int .u8 28, .int .u8 10, .int .u8 0, .int .u8 0, .int .u8 0, .int .u8 0, .int .u8 0, .int .u8 0, .int .u8 0, .int .u8 0, .int .u8 0, .int .u8 0] _ rfl _ (by simp)
  have LL := hide (((Later.refl w).alloc (.cells #[.int .u8 8, .int .u8 18, .int .u8 0, .int .u8 0, .int .u8 0, .int .u8 0, .int .u8 0, .int .u8 0, .int .u8 0, .int .u8 0, .int .u8 0, .int .u8 0, .int .u8 0, .int .u8 0, .int .u8 0, .int .u8 0, .int .u8 0, .int .u8 0, .int .u8 0, .int .u8 0] 121)).alloc (.cells #[.int .u8 28, .int .u8 10, .int .u8 0, .int .u8 0, .int .u8 0, .int .u8 0, .int .u8 0, .int .u8 0, .int .u8 0, .int .u8 0, .int .u8 0, .int .u8 0] 122))
  generalize ((w.alloc (.cells #[.int .u8 8, .int .u8 18, .int .u8 0, .int .u8 0, .int .u8 0, .int .u8 0, .int .u8 0, .int .u8 0, .int .u8 0, .int .u8 0, .int .u8 0, .int .u8 0, .int .u8 0, .int .u8 0, .int .u8 0, .int .u8 0, .int .u8 0, .int .u8 0, .int .u8 0, .int .u8 0] 121)).alloc (.cells #[.int .u8 28, .int .u8 10, .int .u8 0, .int .u8 0, .int .u8 0, .int .u8 0, .int .u8 0, .int .u8 0, .int .u8 0, .int .u8 0, .int .u8 0, .int .u8 0] 122)) = w2 at *
  go_ret2
  exact ⟨_, rfl, LL.out, by rw [HL.out]; exact bs_of_box BA.out rfl rfl (by decide)⟩
theorem rmp28_d (which : Int) (hw1 : (which == 1) = false) (hw2 : (which == 2) = false) : MPag 81 28 which false := by
  intro w
  have HL : Hid (mpL 28 which false = pg28) := rfl
  go_enter Tryz.func81, Tryz.ntmps81
  go_wp2
  have BA : Hid (Box _ w.heap.size 121 (bv (pg8 false))) := (Box.new w 121 #[.int .u8 8, .int .u8 18, .int .u8 0, .int .u8 0, .int .u8 0, .int .u8 0, .int .u8 0, .int .u8 0, .int .u8 0, .int .u8 0, .int .u8 0, .int .u8 0, .int .u8 0, .int .u8 0, .int .u8 0, .int .u8 0, .int .u8 0, .int .u8 0, .int .u8 0, .int .u8 0]).alloc (.cells #[.int .u8 28, .int .u8 10, .int .u8 0, .int .u8 0, .int .u8 0, .int .u8 0, .int .u8 0, .int .u8 0, .int .u8 0, .int .u8 0, .int .u8 0, .int .u8 0] 122)
  have BB : Hid (Box _ (w.heap.size + 1) 122 (bv pg28)) := Box.new' (w.alloc (.cells #[.int .u8 8, .int .u8 18, .int .u8 0, .int .u8 0, .int .u8 0, .int .u8 0, .int .u8 0, .int .u8 0, .int .u8 0, .int .u8 0, .int .u8 0, .int .u8 0, .int .u8 0, .int .u8 0, .int .u8 0, .int .u8 0, .int .u8 0, .int .u8 0, .int .u8 0, .int .u8 0] 121)) 122 #[.int .u8 28, .int .u8 10, .int .u8 0, .int .u8 0, .int .u8 0, .int .u8 0, .int .u8 0, .int .u8 0, .int .u8 0, .int .u8 0, .int .u8 0, .int .u8 0] _ rfl _ (by simp)
  have LL := hide (((Later.refl w).alloc (.cells #[.int .u8 8, .int .u8 18, .int .u8 0, .int .u8 0, .int .u8 0, .int .u8 0, .int .u8 0, .int .u8 0, .int .u8 0, .int .u8 0, .int .u8 0, .int .u8 0, .int .u8 0, .int .u8 0, .int .u8 0, .int .u8 0, .int .u8 0, .int .u8 0, .int .u8 0, .int .u8 0] 121)).alloc (.cells #[.int .u8 28, .int .u8 10, .int .u8 0, .int .u8 0, .int .u8 0, .int .u8 0, .int .u8 0, .int .u8 0, .int .u8 0, .int .u8 0, .int .u8 0, .int .u8 0] 122))
  generalize ((w.alloc (.cells #[.int .u8 8, .int .u8 18, .int .u8 0, .int .u8 0, .int .u8 0, .int .u8 0, .int .u8 0, .int .u8 0, .int .u8 0, .int .u8 0, .int .u8 0, .int .u8 0, .int .u8 0, .int .u8 0, .int .u8 0, .int .u8 0, .int .u8 0, .int .u8 0, .int .u8 0, .int .u8 0] 121)).alloc (.cells #[.int .u8 28, .int .u8 10, .int .u8 0, .int .u8 0, .int .u8 0, .int .u8 0, .int .u8 0, .int .u8 0, .int .u8 0, .int .u8 0, .int .u8 0, .int .u8 0] 122)) = w2 at *
  go_ret2
  exact ⟨_, rfl, LL.out, by rw [HL.out]; exact bs_of_box BB.out rfl rfl (by decide)⟩
theorem rmpx_d (which : Int) (hw1 : (which == 1) = false) (hw2 : (which == 2) = false) (page : Int) (h1 : page ≠ 8) (h2 : page ≠ 28) (h3 : page ≠ 63) : MPag 81 page which false := by
  intro w
  have HL : Hid (mpL page which false = []) := by simp [Hid, mpL, h1, h2, h3]
  have HB : Hid (mpB page = false) := by simp [Hid, mpB, h1, h2, h3]
  go_enter Tryz.func81, Tryz.ntmps81
  go_wp2
  have BA : Hid (Box _ w.heap.size 121 (bv (pg8 false))) := (Box.new w 121 #[.int .u8 8, .int .u8 18, .int .u8 0, .int .u8 0, .int .u8 0, .int .u8 0, .int .u8 0, .int .u8 0, .int .u8 0, .int .u8 0, .int .u8 0, .int .u8 0, .int .u8 0, .int .u8 0, .int .u8 0, .int .u8 0, .int .u8 0, .int .u8 0, .int .u8 0, .int .u8 0]).alloc (.cells #[.int .u8 28, .int .u8 10, .int .u8 0, .int .u8 0, .int .u8 0, .int .u8 0, .int .u8 0, .int .u8 0, .int .u8 0, .int .u8 0, .int .u8 0, .int .u8 0] 122)
  have BB : Hid (Box _ (w.heap.size + 1) 122 (bv pg28)) := Box.new' (w.alloc (.cells #[.int .u8 8, .int .u8 18, .int .u8 0, .int .u8 0, .int .u8 0, .int .u8 0, .int .u8 0, .int .u8 0, .int .u8 0, .int .u8 0, .int .u8 0, .int .u8 0, .int .u8 0, .int .u8 0, .int .u8 0, .int .u8 0, .int .u8 0, .int .u8 0, .int .u8 0, .int .u8 0] 121)) 122 #[.int .u8 28, .int .u8 10, .int .u8 0, .int .u8 0, .int .u8 0, .int .u8 0, .int .u8 0, .int .u8 0, .int .u8 0, .int .u8 0, .int .u8 0, .int .u8 0] _ rfl _ (by simp)
  have LL := hide (((Later.refl w).alloc (.cells #[.int .u8 8, .int .u8 18, .int .u8 0, .int .u8 0, .int .u8 0, .int .u8 0, .int .u8 0, .int .u8 0, .int .u8 0, .int .u8 0, .int .u8 0, .int .u8 0, .int .u8 0, .int .u8 0, .int .u8 0, .int .u8 0, .int .u8 0, .int .u8 0, .int .u8 0, .int .u8 0] 121)).alloc (.cells #[.int .u8 28, .int .u8 10, .int .u8 0, .int .u8 0, .int .u8 0, .int .u8 0, .int .u8 0, .int .u8 0, .int .u8 0, .int .u8 0, .int .u8 0, .int .u8 0] 122))
  generalize ((w.alloc (.cells #[.int .u8 8, .int .u8 18, .int .u8 0, .int .u8 0, .int .u8 0, .int .u8 0, .int .u8 0, .int .u8 0, .int .u8 0, .int .u8 0, .int .u8 0, .int .u8 0, .int .u8 0, .int .u8 0, .int .u8 0, .int .u8 0, .int .u8 0, .int .u8 0, .int .u8 0, .int .u8 0] 121)).alloc (.cells #[.int .u8 28, .int .u8 10, .int .u8 0, .int .u8 0, .int .u8 0, .int .u8 0, .int .u8 0, .int .u8 0, .int .u8 0, .int .u8 0, .int .u8 0, .int .u8 0] 122)) = w2 at *
  go_ret2
  rw [HL.out, HB.out]
  exact ⟨_, rfl, LL.out, Bs.nil _⟩
set_option maxHeartbeats 1000000 in
theorem rmp63_d (which : Int) (hw1 : (which == 1) = false) (hw2 : (which == 2) = false) : MPag 81 63 which false := by
  intro w
  have HL : Hid (mpL 63 which false = pg8 false ++ pg28) := by simp [Hid, mpL, vB, hw1, hw2]
  go_enter Tryz.func81, Tryz.ntmps81
  go_wp2_with fail
  have BA : Hid (Box _ w.heap.size 121 (bv (pg8 false))) := (Box.new w 121 #[.int .u8 8, .int .u8 18, .int .u8 0, .int .u8 0, .int .u8 0, .int .u8 0, .int .u8 0, .int .u8 0, .int .u8 0, .int .u8 0, .int .u8 0, .int .u8 0, .int .u8 0, .int .u8 0, .int .u8 0, .int .u8 0, .int .u8 0, .int .u8 0, .int .u8 0, .int .u8 0]).alloc (.cells #[.int .u8 28, .int .u8 10, .int .u8 0, .int .u8 0, .int .u8 0, .int .u8 0, .int .u8 0, .int .u8 0, .int .u8 0, .int .u8 0, .int .u8 0, .int .u8 0] 122)
  have BB : Hid (Box _ (w.heap.size + 1) 122 (bv pg28)) := Box.new' (w.alloc (.cells #[.int .u8 8, .int .u8 18, .int .u8 0, .int .u8 0, .int .u8 0, .int .u8 0, .int .u8 0, .int .u8 0, .int .u8 0, .int .u8 0, .int .u8 0, .int .u8 0, .int .u8 0, .int .u8 0, .int .u8 0, .int .u8 0, .int .u8 0, .int .u8 0, .int .u8 0, .int .u8 0] 121)) 122 #[.int .u8 28, .int .u8 10, .int .u8 0, .int .u8 0, .int .u8 0, .int .u8 0, .int .u8 0, .int .u8 0, .int .u8 0, .int .u8 0, .int .u8 0, .int .u8 0] _ rfl _ (by simp)
  have LL := hide (((Later.refl w).alloc (.cells #[.int .u8 8, .int .u8 18, .int .u8 0, .int .u8 0, .int .u8 0, .int .u8 0, .int .u8 0, .int .u8 0, .int .u8 0, .int .u8 0, .int .u8 0, .int .u8 0, .int .u8 0, .int .u8 0, .int .u8 0, .int .u8 0, .int .u8 0, .int .u8 0, .int .u8 0, .int .u8 0] 121)).alloc (.cells #[.int .u8 28, .int .u8 10, .int .u8 0, .int .u8 0, .int .u8 0, .int .u8 0, .int .u8 0, .int .u8 0, .int .u8 0, .int .u8 0, .int .u8 0, .int .u8 0] 122))
  generalize ((w.alloc (.cells #[.int .u8 8, .int .u8 18, .int .u8 0, .int .u8 0, .int .u8 0, .int .u8 0, .int .u8 0, .int .u8 0, .int .u8 0, .int .u8 0, .int .u8 0, .int .u8 0, .int .u8 0, .int .u8 0, .int .u8 0, .int .u8 0, .int .u8 0, .int .u8 0, .int .u8 0, .int .u8 0] 121)).alloc (.cells #[.int .u8 28, .int .u8 10, .int .u8 0, .int .u8 0, .int .u8 0, .int .u8 0, .int .u8 0, .int .u8 0, .int .u8 0, .int .u8 0, .int .u8 0, .int .u8 0] 122)) = w2 at *
  refine wp_region_held (fun W => Later w2 W) (fun a b hl h => h.trans hl) (Later.refl _) [(1, false), (3, false), (0, true), (2, true), (4, true), (5, false), (6, false)] (by kernel_rfl) (by kernel_rfl) (by kernel_rfl) (by kernel_rfl) ?_
  haveI : Nonempty (Held (fun W => Later w2 W)) := ⟨⟨_, Later.refl _⟩⟩
  iterate 2 (refine wpJ_mild rfl (fun K hK => ?_); go_simp; refine hK _ ?_; clear hK K)
  refine wpJ_loud rfl (fun K hK w3 hw3 => ?_)
  go_simp
  have L3 : Hid (Later w2 (w3.alloc (.cells #[] 5))) := ((Later.refl w2).drew.trans hw3).alloc _
  have O3 : Hid ((w3.alloc (.cells #[] 5)).ownsRow w2.heap.size 5 1 (.slice (some ⟨w3.heap.size, 0, none⟩) 0 0) 0 (bv [])) := World.ownsRow_lit w3 #[] 0 ((Later.refl w2).drew.trans hw3).size (by simp [maxLen]) rfl
  refine ⟨L3.out, hK _ _ ?_⟩
  clear hK K hw3
  generalize w3.heap.size = g3 at *
  generalize w3.alloc (.cells #[] 5) = w4 at *
  refine wpJ_append8 rfl (by kernel_rfl) (.tmp 33) (.tmp 34) 40 rfl w2.heap.size g3 0 0 [] (pg8 false) rfl _ rfl O3.out (fun W hW => src_bs (bs_of_box (BA.out.later (L3.out.trans hW)) rfl rfl (by decide))) (by decide) L3.out.size (fun W hW => Below.trans L3.out hW) ?_
  intro g5 c5 w5 hB ho
  have L5 : Hid (Later w2 w5) := Below.trans L3.out hB
  have O5 := hide ho
  clear hB ho O3 L3
  refine wpJ_append8 rfl (by kernel_rfl) (.tmp 35) (.tmp 36) 40 rfl w2.heap.size g5 20 c5 (pg8 false) pg28 rfl _ rfl O5.out (fun W hW => src_bs (bs_of_box (BB.out.later (L5.out.trans hW)) rfl rfl (by decide))) (by decide) L5.out.size (fun W hW => Below.trans L5.out hW) ?_
  intro g6 c6 w6 hB ho
  have L6 : Hid (Later w2 w6) := Below.trans L5.out hB
  have V6 := hide (Bs.of_owns ho).1
  clear hB ho O5 L5
  iterate 2 (refine wpJ_mild rfl (fun K hK => ?_); go_simp; refine hK _ ?_; clear hK K)
  refine wpJ_nil (fun wn hn => ?_)
  have L7 := hide (LL.out.trans (L6.out.trans hn))
  have V7 := hide (V6.out.later hn)
  clear hn L6 V6 LL
  go_wp2
  go_ret2
  exact ⟨_, rfl, L7.out, by rw [HL.out]; exact V7.out⟩
theorem rmpage_c (page which : Int) (caching : Bool) : MPag 81 page which caching := by
  intro w
  by_cases h1 : page = 8
  · subst h1
    cases caching with
    | true => exact rmp8_a which w
    | false =>
      by_cases hw1 : which = 1
      · subst hw1; exact rmp8_b w w
      by_cases hw2 : which = 2
      · subst hw2; exact rmp8_c w w
      exact rmp8_d which (by simp [hw1]) (by simp [hw2]) w
  by_cases h2 : page = 28
  · subst h2
    cases caching with
    | true => exact rmp28_a which w
    | false =>
      by_cases hw1 : which = 1
      · subst hw1; exact rmp28_b w w
      by_cases hw2 : which = 2
      · subst hw2; exact rmp28_c w w
      exact rmp28_d which (by simp [hw1]) (by simp [hw2]) w
  by_cases h3 : page = 63
  · subst h3
    cases caching with
    | true => exact rmp63_a which w
    | false =>
      by_cases hw1 : which = 1
      · subst hw1; exact rmp63_b w w
      by_cases hw2 : which = 2
      · subst hw2; exact rmp63_c w w
      exact rmp63_d which (by simp [hw1]) (by simp [hw2]) w
  cases caching with
  | true => exact rmpx_a which page h1 h2 h3 w
  | false =>
    by_cases hw1 : which = 1
    · subst hw1; exact rmpx_b w page h1 h2 h3 w
    by_cases hw2 : which = 2
    · subst hw2; exact rmpx_c w page h1 h2 h3 w
    exact rmpx_d which (by simp [hw1]) (by simp [hw2]) page h1 h2 h3 w
theorem mpL_len (page which : Int) (caching : Bool) : (mpL page which caching).length ≤ 32 := by
  unfold mpL
  split
  · simp [pg8]
  split
  · simp [pg28]
  split
  · simp [pg8, pg28]
  · simp
end Go.Proofs.YtfakboehmcimpaaGreat
