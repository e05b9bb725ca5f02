import Derived.Test.YtkbpecbpfajkfaaMAB
namespace Go.Proofs.Ytkbpecbpfajkfaa
open Go.ChangeShapes Go.WideShapes Go.ChangeAt Go.RowKit
set_option linter.unusedVariables false
set_option linter.unusedSimpArgs false

theorem Try.elem_block : Elem Try.prog 50 64 64 (.agg (Array.replicate 64 (.int .u8 0))) := by
  have h : (Try.prog.info? 50).map (fun i => (i.zero, i.size, i.bytes)) = some (some (.agg (Array.replicate 64 (.int .u8 0))), 64, 64) := by kernel_rfl
  obtain ⟨i, hi, h1, h2, h3⟩ := info_parts h
  exact ⟨i, hi, h1, h2, h3⟩
theorem Try.elem_u8 : Elem Try.prog 5 1 1 (.int .u8 0) := by
  obtain ⟨i, hi, h1, h2, h3⟩ := info_parts Try.info_u8
  exact ⟨i, hi, h1, h2, h3⟩

theorem rcopy_c {v : Value} {n : Nat} {F : List UInt8} (w : World) (B : Nat) (hB : B ≤ w.heap.size) (h : Rw 64 w v n (bv F)) (hn : n * 64 ≤ 140737488355328) :
    Calls Try.prog 60 #[v] w fun e w' => ∃ v', e = .returned v' ∧ Below B w w' ∧ w'.ownsRow B 50 64 v' n (bv F) := by
  have hown : Hid ((w.alloc (.cells #[] 50)).ownsRow B 50 64 (.slice (some ⟨w.heap.size, 0, none⟩) 0 0) 0 []) := World.ownsRow_lit w #[] 0 hB (by simp [maxLen]) rfl
  have hb : Hid (Below B w (w.alloc (.cells #[] 50))) := (Below.refl _ _).alloc hB _
  have hr := hide (h.later ((Later.refl w).alloc (.cells #[] 50)))
  have hlen := h.2.1
  unfold maxLen at hlen
  obtain ⟨_, _, a, cap, rfl, _, _⟩ := h
  go_enter Try.func60, Try.ntmps60
  go_wp2_with (at_builtin; refine wpList_append_rw Try.elem_block Try.underlying22 rfl (by decide) rfl (.tmp 3) (.tmp 4) rfl B _ 0 [] rfl hown.out _ n (bv F) rfl hr.out (bv_one F) ?c1 ?c2 ?c3 w hb.out ?_)
  case c1 => omega
  case c2 => unfold maxLen; omega
  case c3 => simp; omega
  intro v' w' ho hbl _
  go_wp2
  go_ret
  exact ⟨_, rfl, hbl, by simpa using ho⟩

theorem seg_add (l : List UInt8) (a i k : Nat) : seg l a (i + k) = seg l a i ++ seg l (a + i) k := by
  simp [seg, List.take_add, List.drop_drop]
theorem seg_seg (l : List UInt8) (a b k n : Nat) (h : b + k ≤ n) : seg (seg l a n) b k = seg l (a + b) k := by
  unfold seg
  rw [List.drop_take, List.take_take, List.drop_drop, Nat.min_eq_left (by omega)]

theorem owns_kept {w w' : World} {B : Nat} {e : TypeId} {sz : Nat} {v : Value} {n : Nat} {xs : List Value} (h : w.ownsRow B e sz v n xs) (hk : ∀ g, v.ownBlock = some g → w'.heap[g]? = w.heap[g]?) : w'.ownsRow B e sz v n xs := by
  refine ⟨h.1, ?_⟩
  rcases h.2 with hn | ⟨g, cap, cur, rfl, hb, hg, rest⟩
  · exact .inl hn
  · exact .inr ⟨g, cap, cur, rfl, hb, by rw [hk g rfl]; exact hg, rest⟩

theorem box_grown {w w' : World} {g : Nat} {t : TypeId} {xs : List Value} {B : Nat} {e : TypeId} {sz : Nat} {v : Value} {n : Nat} {ys : List Value} (hB : Box w g t xs) (ho : w.ownsRow B e sz v n ys) (hne : t ≠ e) (hg : w.grownBy w' v.ownBlock) : Box w' g t xs := by
  unfold Box
  rw [hg.block g hB.lt ?_]
  · exact hB
  · intro he
    rcases ho.2 with ⟨rfl, _⟩ | ⟨g', cap, cur, rfl, _, hg', _⟩
    · simp [Value.ownBlock] at he
    · simp [Value.ownBlock] at he
      subst he
      unfold Box at hB
      rw [hg'] at hB
      simp at hB
      exact hne hB.2.symm

set_option maxHeartbeats 2000000 in
theorem rread_yes (ba oa len ca : Nat) (F : List UInt8) (a n : Nat) (w : World) (hlen : len ≤ 64) (hF : F.length = len * 64) (ha : a + n ≤ len) (hr : n = 0 ∨ w.rangeAt ba oa (bv F)) :
    Calls Try.prog 52 #[.slice (some ⟨ba, oa, none⟩) len ca, .int .u64 a, .int .i64 n] w fun e w' => ∃ v, e = .returned (.tuple #[v, .int .i64 0]) ∧ Later w w' ∧ w'.ownsRow w.heap.size 5 1 v (n * 64) (bv (seg F (a * 64) (n * 64))) := by
  have hw : withinB len a n = true := by simp [withinB]; omega
  have Hr := hide hr
  clear hr
  go_enter Try.func52, Try.ntmps52
  go_wp2_with (go_at_call 57; refine (rwithin_c _ _ _ _ (by omega) (by omega)).mono ?_; rintro e w1 ⟨rfl, hw1⟩; have hw2 := hw1.symm; subst hw2; clear hw1)
  go_loopw [8, 9] (fun v i wr => ∃ k : Nat, k ≤ n ∧ i = .int .i64 k ∧ Hid (wr.ownsRow w.heap.size 5 1 v (k * 64) (bv (seg F (a * 64) (k * 64)))) ∧ Hid (Later w wr)) (fun _ i _ => n - (intOf i).toNat)
  case atStart => exact ⟨0, Nat.zero_le _, rfl, by simpa [Hid, seg_zero, bv] using World.ownsRow_nil _ _ _ _, Later.refl w⟩
  case round =>
    obtain ⟨k, hk, rfl, hown, hbl⟩ := hrel
    by_cases hlt : k < n
    · have hrg := hide (hbl.out.range (Hr.out.resolve_left (by omega)))
      have hx := hide (by have := range_part hrg.out ((a + k) * 64) 64; rwa [bv_part] at this)
      have hxl := hide (seg_length F ((a + k) * 64) 64 (by omega))
      have hown1 := hide (hown.out.alloc (.cells (Array.replicate 64 (.int .u8 0)) 50))
      have hbl1 := hide (hbl.out.alloc (.cells (Array.replicate 64 (.int .u8 0)) 50))
      have hbox := hide (Box.new wr 50 (Array.replicate 64 (.int .u8 0)))
      have hszr := hbl.out.size
      have hHB := hide hown.out.lt
      go_wp2_with (first
        | refine wpList_load_mid rfl 50 (.tmp 31) rfl ba (oa + (a + k) * 64) rfl (bv (seg F ((a + k) * 64) 64)) _ hx.out Try.underlying50 rfl (by rw [Try.info_block, bv_length, hxl.out]) ?_
        | refine wpList_store_new rfl 50 (.tmp 10) (.tmp 32) rfl wr.heap.size (bv (seg F ((a + k) * 64) 64)) rfl rfl _ hbox.out (by rw [bv_length, hxl.out]; simp) (by rw [bv_length, hxl.out, Try.info_block]) (bv_one _) w hbl1.out hszr ?_)
      intro w2 hbox2 hl2 hk2 hs2
      have hown2 : Hid (w2.ownsRow w.heap.size 5 1 u8 (k * 64) (bv (seg F (a * 64) (k * 64)))) := owns_kept hown1.out (fun g hg => hk2 g (by have := hHB.out g hg; omega))
      have Hbox2 := hide hbox2
      have Hl2 := hide hl2
      clear hk2 hs2 hbox2 hl2 hown1 hbl1 hbox hHB hx hrg hown hbl hszr
      generalize wr.heap.size = G at *
      go_wp2_with fail
      go_loopw [8, 11] (fun v i wq => ∃ j : Nat, j ≤ 64 ∧ i = .int .i64 j ∧ Hid (wq.ownsRow w.heap.size 5 1 v (k * 64 + j) (bv (seg F (a * 64) (k * 64 + j)))) ∧ Hid (Later w wq) ∧ Hid (Box wq G 50 (bv (seg F ((a + k) * 64) 64)))) (fun _ i _ => 64 - (intOf i).toNat)
      case atStart => exact ⟨0, Nat.zero_le _, rfl, hown2, Hl2, Hbox2⟩
      case round =>
        obtain ⟨j, hj, rfl, hownj, hlj, hboxj⟩ := hrel
        by_cases hltj : j < 64
        · have hXl := hxl.out
          have hbyte : wr.cell? ⟨G, j, none⟩ = some (.int .u8 ((seg F ((a + k) * 64) 64)[j].toNat : Int)) := by
            rw [hboxj.out.cell j, bv_get_lt _ j (by omega)]
          have hsn : Hid (seg F (a * 64) (k * 64 + (j + 1)) = seg F (a * 64) (k * 64 + j) ++ [(seg F ((a + k) * 64) 64)[j]]) := by
            unfold Hid
            rw [← Nat.add_assoc, seg_snoc F (a * 64) (k * 64 + j) (by omega)]
            congr 2
            simp [seg]
            congr 1
            omega
          have hsz := hlj.out.size
          have hBr := hide (hlj.out.alloc (.cells #[.int .u8 ((seg F ((a + k) * 64) 64)[j].toNat : Int)] 5))
          have hbxr := hide (hboxj.out.alloc (.cells #[.int .u8 ((seg F ((a + k) * 64) 64)[j].toNat : Int)] 5))
          have hor := hide (hownj.out.alloc (.cells #[.int .u8 ((seg F ((a + k) * 64) 64)[j].toNat : Int)] 5))
          have hone := hide (Bs.one wr (seg F ((a + k) * 64) 64)[j] 5)
          generalize (seg F ((a + k) * 64) 64)[j] = c at *
          clear hownj hboxj hlj
          go_wp2_with (at_builtin; refine wpList_append_bs rfl (.tmp 37) (.tmp 41) rfl w.heap.size _ (k * 64 + j) _ rfl hor.out _ [c] rfl hone.out ?c1 ?c2 w hBr.out ?_)
          case c1 => simp; omega
          case c2 => simp; omega
          intro v' w' ho' hb' hg'
          have R : Hid (w'.ownsRow w.heap.size 5 1 v' (k * 64 + (j + 1)) (bv (seg F (a * 64) (k * 64 + (j + 1)))) ∧ Later w w' ∧ Box w' G 50 (bv (seg F ((a + k) * 64) 64))) := by
            refine ⟨?_, hb', box_grown hbxr.out hor.out (by decide) hg'⟩
            rw [hsn.out]
            exact ho'
          clear ho' hb' hg' hbyte hor hone hbxr hBr
          go_wp2
          go_roundw
          case rel => exact ⟨j + 1, by omega, by go_num, R.out.1, R.out.2.1, R.out.2.2⟩
          case measure => simp [intOf]; omega
        · have hj64 : Hid (j = 64) := by unfold Hid; omega
          go_wp2
          go_roundw
          case rel =>
            refine ⟨k + 1, by omega, by go_num, ?_, hlj⟩
            have := hownj.out
            rw [hj64.out] at this
            unfold Hid
            rw [show (k + 1) * 64 = k * 64 + 64 from by omega]
            exact this
          case measure => simp [intOf]; omega
    · have hkn : Hid (k = n) := by unfold Hid; omega
      go_wp2
      go_ret2
      refine ⟨_, rfl, hbl.out, ?_⟩
      have := hown.out
      rwa [hkn.out] at this

theorem rread_zero (ad : Option Addr) (len ca : Nat) (a : Nat) (w : World) (hlen : len ≤ 64) (ha : a ≤ len) :
    Calls Try.prog 52 #[.slice ad len ca, .int .u64 a, .int .i64 0] w fun e w' => e = .returned (.tuple #[.slice none 0 0, .int .i64 0]) ∧ w' = w := by
  have hw : withinB len a 0 = true := by simp [withinB]; omega
  go_enter Try.func52, Try.ntmps52
  go_wp2_with (go_at_call 57; refine (rwithin_c _ _ _ _ (by omega) (by omega)).mono ?_; rintro e w1 ⟨rfl, hw1⟩; have hw2 := hw1.symm; subst hw2; clear hw1)
  refine wp_loop_rounds 1 ?_
  rw [rounds_succ]
  go_wp2
  go_ret2
  exact ⟨rfl, rfl⟩
theorem rread_long (ad : Option Addr) (len ca : Nat) (a : Nat) (n : Int) (w : World) (hlen : 64 < len) (hm : len ≤ maxLen) :
    Calls Try.prog 52 #[.slice ad len ca, .int .u64 a, .int .i64 n] w fun e w' => e = .returned (.tuple #[.slice none 0 0, .int .i64 4]) ∧ w' = w := by
  unfold maxLen at hm
  go_enter Try.func52, Try.ntmps52
  go_wp2
  go_ret2
  exact ⟨rfl, rfl⟩
theorem rread_range (ad : Option Addr) (len ca : Nat) (a : Nat) (n : Int) (w : World) (hlen : len ≤ 64) (ha : a ≤ 18446744073709551615) (hw : withinB len a n = false) :
    Calls Try.prog 52 #[.slice ad len ca, .int .u64 a, .int .i64 n] w fun e w' => e = .returned (.tuple #[.slice none 0 0, .int .i64 5]) ∧ w' = w := by
  go_enter Try.func52, Try.ntmps52
  go_wp2_with (go_at_call 57; refine (rwithin_c _ _ _ _ (by omega) (by omega)).mono ?_; rintro e w1 ⟨rfl, hw1⟩; have hw2 := hw1.symm; subst hw2; clear hw1)
  go_ret2
  exact ⟨rfl, rfl⟩

/-- what is read of a store of len blocks, the bytes F -/
def readE (len : Nat) (a : Nat) (n : Int) : Int := if 64 < len then 4 else if withinB len a n then 0 else 5
def readL (len : Nat) (F : List UInt8) (a : Nat) (n : Int) : List UInt8 := if 64 < len then [] else if withinB len a n then seg F (a * 64) (n.toNat * 64) else []
theorem rread_c {v : Value} {len : Nat} {F : List UInt8} (a : Nat) (n : Int) (w : World) (h : Rw 64 w v len (bv F)) (ha : a ≤ 18446744073709551615) :
    Calls Try.prog 52 #[v, .int .u64 a, .int .i64 n] w fun e w' => ∃ v', e = .returned (.tuple #[v', .int .i64 (readE len a n)]) ∧ Later w w' ∧ w'.ownsRow w.heap.size 5 1 v' (readL len F a n).length (bv (readL len F a n)) := by
  obtain ⟨hl, hm, ad, ca, rfl, _, hr⟩ := h
  rw [bv_length] at hl
  unfold readE readL
  by_cases h1 : 64 < len
  · simp only [if_pos h1]
    exact (rread_long ad len ca a n w h1 hm).mono fun e w' ⟨he, hw⟩ => ⟨_, he, by rw [hw]; exact Later.refl w, World.ownsRow_nil _ _ _ _⟩
  · simp only [if_neg h1]
    by_cases h2 : withinB len a n = true
    · simp only [h2, if_true]
      have h2' := h2
      simp [withinB] at h2'
      obtain ⟨k, rfl⟩ := Int.eq_ofNat_of_zero_le h2'.1
      rw [Int.toNat_natCast]
      by_cases h0 : k = 0
      · subst h0
        refine (rread_zero ad len ca a w (by omega) (by omega)).mono fun e w' ⟨he, hw⟩ => ⟨_, he, by rw [hw]; exact Later.refl w, ?_⟩
        simpa [seg_zero, bv] using World.ownsRow_nil w' _ _ _
      · rcases hr with rfl | ⟨ba, oa, rfl, hr⟩
        · omega
        · refine (rread_yes ba oa len ca F a k w (by omega) hl (by omega) (.inr hr)).mono fun e w' he => ?_
          rwa [seg_length F (a * 64) (k * 64) (by omega)]
    · have h2' : withinB len a n = false := by simpa using h2
      simp only [h2', Bool.false_eq_true, if_false]
      exact (rread_range ad len ca a n w (by omega) ha h2').mono fun e w' ⟨he, hw⟩ => ⟨_, he, by rw [hw]; exact Later.refl w, World.ownsRow_nil _ _ _ _⟩
end Go.Proofs.Ytkbpecbpfajkfaa

namespace Go.Proofs.Ytkbpecbpfajkfaa
open Go.ChangeShapes Go.WideShapes Go.ChangeAt Go.RowKit
set_option linter.unusedVariables false
set_option linter.unusedSimpArgs false

def z64 : Value := .agg (Array.replicate 64 (.int .u8 0))
theorem Try.elem_z64 : Elem Try.prog 50 64 64 z64 := Try.elem_block
theorem made64 (n : Nat) : (madeCells z64.cells (n * 64)).toList = bv (List.replicate (n * 64) 0) := by
  rw [bv_replicate]; exact madeCells_rep _ 64 _ (by omega)

/-- so many bytes laid, zeros behind -/
def fillP (c : UInt8) (all k : Nat) : List UInt8 := List.replicate k c ++ List.replicate (all - k) 0
theorem fillP_set (c : UInt8) (all k : Nat) (h : k < all) : fillP c all (k + 1) = (fillP c all k).set k c := by
  unfold fillP
  rw [List.set_append_right _ _ (by simp), List.length_replicate, Nat.sub_self]
  obtain ⟨m, hm⟩ : ∃ m, all - k = m + 1 := ⟨all - k - 1, by omega⟩
  rw [hm, show all - (k + 1) = m from by omega, List.replicate_succ (n := m), List.set_cons_zero, List.replicate_succ']
  simp
theorem fillP_zero (c : UInt8) (all : Nat) : fillP c all 0 = List.replicate all 0 := by simp [fillP]
theorem fillP_all (c : UInt8) (all : Nat) : fillP c all all = List.replicate all c := by simp [fillP]
theorem fillP_length (c : UInt8) (all k : Nat) (h : k ≤ all) : (fillP c all k).length = all := by simp [fillP]; omega

end Go.Proofs.Ytkbpecbpfajkfaa

namespace Go.Proofs.Ytkbpecbpfajkfaa
open Go.ChangeShapes Go.WideShapes Go.ChangeAt Go.RowKit
set_option linter.unusedVariables false
set_option linter.unusedSimpArgs false

theorem of_c {v : Value} {l : List UInt8} (a : Nat) (w : World) (h : Bs w v l) (ha : a + 64 ≤ l.length) :
    Calls Try.prog 34 #[v, .int .i64 a] w fun e w' => e = .returned (.agg (bv (seg l a 64)).toArray) ∧ Later w w' := by
  obtain ⟨hm, ad, cap, rfl, _, h⟩ := h
  rcases h with rfl | ⟨b, off, rfl, hc⟩
  · simp at ha
  · exact of_yes b off l.length cap l a w rfl hm ha hc

end Go.Proofs.Ytkbpecbpfajkfaa

namespace Go.Proofs.Ytkbpecbpfajkfaa
open Go.ChangeShapes Go.WideShapes Go.ChangeAt Go.RowKit
set_option linter.unusedVariables false
set_option linter.unusedSimpArgs false

/-- bytes laid over others from a place on -/
def over (F : List UInt8) (o : Nat) (l : List UInt8) : List UInt8 := F.take o ++ l ++ F.drop (o + l.length)
theorem over_get (F : List UInt8) (o : Nat) (l : List UInt8) (h : o + l.length ≤ F.length) (i : Nat) : (over F o l)[i]? = if o ≤ i ∧ i < o + l.length then l[i - o]? else F[i]? := by
  unfold over
  have h1 : (F.take o).length = o := by simp; omega
  by_cases c1 : i < o
  · rw [if_neg (by omega), List.append_assoc, List.getElem?_append_left (by omega), List.getElem?_take_of_lt c1]
  · by_cases c2 : i < o + l.length
    · rw [if_pos (by omega), List.getElem?_append_left (by simp; omega), List.getElem?_append_right (by omega), h1]
    · rw [if_neg (by omega), List.getElem?_append_right (by simp; omega), List.getElem?_drop]
      congr 1
      simp
      omega
theorem over_length (F : List UInt8) (o : Nat) (l : List UInt8) (h : o + l.length ≤ F.length) : (over F o l).length = F.length := by simp [over]; omega
theorem over_nil (F : List UInt8) (o : Nat) : over F o [] = F := by simp [over]
theorem over_over (F : List UInt8) (o : Nat) (l m : List UInt8) (h : o + l.length + m.length ≤ F.length) : over (over F o l) (o + l.length) m = over F o (l ++ m) := by
  apply List.ext_getElem?
  intro i
  rw [over_get (over F o l) (o + l.length) m (by rw [over_length _ _ _ (by omega)]; omega), over_get F o l (by omega), over_get F o (l ++ m) (by simp; omega)]
  simp only [List.length_append]
  by_cases c1 : o + l.length ≤ i ∧ i < o + l.length + m.length
  · rw [if_pos c1, if_pos (by omega), List.getElem?_append_right (by omega)]
    congr 1; omega
  · rw [if_neg c1]
    by_cases c2 : o ≤ i ∧ i < o + l.length
    · rw [if_pos c2, if_pos (by omega), List.getElem?_append_left (by omega)]
    · rw [if_neg c2, if_neg (by omega)]
theorem bv_over (F : List UInt8) (o : Nat) (l : List UInt8) : bv (over F o l) = (bv F).take o ++ bv l ++ (bv F).drop (o + (bv l).length) := by simp [over, bv, List.map_take, List.map_drop]

def writeE (len a lb : Nat) : Int := if 64 < len then 4 else if lb % 64 ≠ 0 then 3 else if withinB len a ((lb : Int) / 64) then 0 else 5
def writeL (len : Nat) (F : List UInt8) (a : Nat) (l : List UInt8) : List UInt8 := if writeE len a l.length = 0 then over F (a * 64) l else []
def writeN (len a lb : Nat) : Nat := if writeE len a lb = 0 then len else 0
def makeE (n : Int) : Int := if 0 ≤ n ∧ n ≤ 64 then 0 else 1
def makeN (n : Int) : Nat := if 0 ≤ n ∧ n ≤ 64 then n.toNat else 0
end Go.Proofs.Ytkbpecbpfajkfaa

namespace Go.Proofs.Ytkbpecbpfajkfaa
open Go.ChangeShapes Go.WideShapes Go.ChangeAt Go.RowKit
set_option linter.unusedVariables false
set_option linter.unusedSimpArgs false

/-! Media: blocks as flat bytes, the cached writes as a list of places and bytes. -/
abbrev Drt := Int × List UInt8
def dv (D : List Drt) : List Value := D.flatMap fun d => .int .i64 d.1 :: bv d.2
def Ok (D : List Drt) : Prop := ∀ d ∈ D, d.2.length = 64 ∧ -9223372036854775808 ≤ d.1 ∧ d.1 ≤ 9223372036854775807
def Med (w : World) (v : Value) (n : Nat) (F : List UInt8) (D : List Drt) : Prop :=
  ∃ vb vd, v = .agg #[vb, vd] ∧ Rw 64 w vb n (bv F) ∧ Rw 65 w vd D.length (dv D) ∧ Ok D

theorem dv_nil : dv [] = [] := rfl
theorem dv_cons (d : Drt) (D : List Drt) : dv (d :: D) = (.int .i64 d.1 :: bv d.2) ++ dv D := by simp [dv]
theorem dv_append (D E : List Drt) : dv (D ++ E) = dv D ++ dv E := by simp [dv]
theorem dv_one (D : List Drt) : ∀ u ∈ dv D, u.oneCell' = true := by
  intro u hu
  simp only [dv, List.mem_flatMap] at hu
  obtain ⟨d, _, hd⟩ := hu
  rcases List.mem_cons.1 hd with rfl | h
  · rfl
  · exact bv_one _ u h
theorem Ok.tail {d : Drt} {D : List Drt} (h : Ok (d :: D)) : Ok D := fun x hx => h x (by simp [hx])
theorem Ok.append {D E : List Drt} (h : Ok D) (h' : Ok E) : Ok (D ++ E) := fun x hx => by
  rcases List.mem_append.1 hx with hx | hx
  · exact h x hx
  · exact h' x hx
theorem dv_length : ∀ (D : List Drt), Ok D → (dv D).length = D.length * 65
  | [], _ => rfl
  | d :: D, h => by rw [dv_cons, List.length_append, dv_length D h.tail]; simp [bv_length, (h d (by simp)).1]; omega
theorem dv_drop : ∀ (D : List Drt) (k : Nat), Ok D → (dv D).drop (k * 65) = dv (D.drop k)
  | D, 0, _ => by simp
  | [], k + 1, _ => by simp [dv]
  | d :: D, k + 1, h => by
    have hl : (Value.int .i64 d.1 :: bv d.2).length = 65 := by simp [bv_length, (h d (by simp)).1]
    rw [dv_cons, List.drop_succ_cons, ← dv_drop D k h.tail, List.drop_append, hl, List.drop_of_length_le (by omega), List.nil_append]
    congr 1; omega
theorem dv_part (D : List Drt) (k : Nat) (hk : k < D.length) (h : Ok D) : ((dv D).drop (k * 65)).take 65 = .int .i64 D[k].1 :: bv D[k].2 := by
  have hl : (Value.int .i64 D[k].1 :: bv D[k].2).length = 65 := by simp [bv_length, (h D[k] (List.getElem_mem hk)).1]
  rw [dv_drop D k h, List.drop_eq_getElem_cons hk, dv_cons]
  have := List.take_left (l₁ := Value.int .i64 D[k].1 :: bv D[k].2) (l₂ := dv (D.drop (k + 1)))
  rw [hl] at this
  exact this
theorem dv_at (D : List Drt) (k : Nat) (hk : k < D.length) (h : Ok D) : (dv D)[k * 65]? = some (.int .i64 D[k].1) := by
  have := dv_part D k hk h
  have h2 := congrArg (fun l : List Value => l[0]?) this
  simpa [List.getElem?_take, List.getElem?_drop] using h2


def rightB (n : Nat) (D : List Drt) : Bool := decide (n ≤ 64 ∧ D.length ≤ 64 ∧ ∀ d ∈ D, 0 ≤ d.1 ∧ d.1 < n)

set_option maxHeartbeats 1000000 in
theorem rright_c {v : Value} {n : Nat} {F : List UInt8} {D : List Drt} (w : World) (h : Med w v n F D) :
    Calls Try.prog 35 #[v] w fun e w' => e = .returned (.bool (rightB n D)) ∧ Later w w' := by
  obtain ⟨vb, vd, rfl, hb, hd, hok⟩ := h
  obtain ⟨ab, cb, rfl⟩ := hb.shape
  obtain ⟨k, hk⟩ : ∃ k, k = D.length := ⟨_, rfl⟩
  rw [← hk] at hd
  obtain ⟨aD, cD, rfl⟩ := hd.shape
  have hn := hb.2.1
  have hkm := hd.2.1
  unfold maxLen at hn hkm
  have HD := hide hd
  have HK := hide hk
  have HO := hide hok
  clear hb hd hk hok
  have BX0 := hide (Box.new w 25 #[.slice ab n cb, .slice aD k cD])
  have L0 := hide ((Later.refl w).alloc (.cells #[.slice ab n cb, .slice aD k cD] 25))
  by_cases h1 : 64 < n
  · go_enter Try.func35, Try.ntmps35
    go_wp2
    go_ret
    exact ⟨ret_bool (by simp [rightB]; omega), L0.out⟩
  by_cases h2 : 64 < k
  · go_enter Try.func35, Try.ntmps35
    go_wp2
    go_ret
    exact ⟨ret_bool (by have := HK.out; simp [rightB]; omega), L0.out⟩
  go_enter Try.func35, Try.ntmps35
  go_wp2_with fail
  go_loopw [3] (fun i wr => ∃ q : Nat, q ≤ k ∧ i = .int .i64 q ∧ Hid (∀ j (hj : j < D.length), j < q → 0 ≤ D[j].1 ∧ D[j].1 < n) ∧ Hid (Box wr w.heap.size 25 [.slice ab n cb, .slice aD k cD]) ∧ Hid (Later w wr)) (fun i _ => k - (intOf i).toNat)
  case atStart => exact ⟨0, Nat.zero_le _, rfl, fun _ _ h => by omega, BX0, L0⟩
  case round =>
    clear BX0 L0
    obtain ⟨q, hq, rfl, hall, hbx, hl⟩ := hrel
    by_cases hlt : q < k
    · obtain ⟨bD, oD, e, hr⟩ := (HD.out.later hl.out).lies? (by omega)
      subst e
      have hqD : q < D.length := by have := HK.out; omega
      have hz := HO.out D[q] (List.getElem_mem hqD)
      have hcell := hr _ _ (dv_at D q hqD HO.out)
      have hin : Hid (∀ z, z = D[q].1 → (0 ≤ z ∧ z < n) → ∀ j (hj : j < D.length), j < q + 1 → 0 ≤ D[j].1 ∧ D[j].1 < n) := by
        intro z hz1 hz2 j hj hjq
        by_cases hjq' : j = q
        · subst hjq'; rw [← hz1]; exact hz2
        · exact hall.out j hj (by omega)
      have hno : Hid (∀ z, z = D[q].1 → ¬ (0 ≤ z ∧ z < n) → rightB n D = false) := by
        intro z hz1 hz2
        simp only [rightB, decide_eq_false_iff_not]
        intro ⟨_, _, h⟩
        exact hz2 (by rw [hz1]; exact h _ (List.getElem_mem hqD))
      generalize hzz : D[q].1 = z at *
      have HZ := hide hzz.symm
      have hzb := hz.2
      clear hzz hz hall hr
      have hc0 := fun r => (Box.later hbx.out ((Later.refl wr).drew.trans (later_rg wr.drew r))).cell 0
      have hc1 := fun r => (Box.later hbx.out ((Later.refl wr).drew.trans (later_rg wr.drew r))).cell 1
      have hc2 := fun r => ((Later.refl wr).drew.trans (later_rg wr.drew r)).cellOf hcell
      have hd0 := hbx.out.cell 0
      have hd1 := hbx.out.cell 1
      go_wp2_with fail
      refine wp_region_sched ((List.range 19).map fun i => (i, false)) (by kernel_rfl) (by kernel_rfl) (by kernel_rfl) (by kernel_rfl) ?_
      simp only [List.range, List.range.loop, List.map]
      by_cases c1 : z < 0
      · iterate 19 (refine wpS_mild rfl (fun K hK => ?_); go_simp; refine hK _ ?_; clear hK K)
        refine wpS_nil (fun wx hwx => ?_)
        have Lx := hide (hl.out.drew.trans hwx)
        clear hc0 hc1 hc2 hd0 hd1 hcell hwx
        go_wp2
        go_ret
        exact ⟨ret_bool (hno.out z rfl (by omega)).symm, Lx.out⟩
      · by_cases c2 : (n : Int) ≤ z
        · iterate 19 (refine wpS_mild rfl (fun K hK => ?_); go_simp; refine hK _ ?_; clear hK K)
          refine wpS_nil (fun wx hwx => ?_)
          have Lx := hide (hl.out.drew.trans hwx)
          clear hc0 hc1 hc2 hd0 hd1 hcell hwx
          go_wp2
          go_ret
          exact ⟨ret_bool (hno.out z rfl (by omega)).symm, Lx.out⟩
        · iterate 19 (refine wpS_mild rfl (fun K hK => ?_); go_simp; refine hK _ ?_; clear hK K)
          refine wpS_nil (fun wx hwx => ?_)
          have Lx := hide (hl.out.drew.trans hwx)
          have Bx := hide (Box.later hbx.out ((Later.refl wr).drew.trans hwx))
          clear hc0 hc1 hc2 hd0 hd1 hcell hwx
          go_wp2
          go_roundw
          case rel => exact ⟨q + 1, by omega, by go_num, hin.out z rfl (by omega), Bx, Lx⟩
          case measure => simp [intOf]; omega
    · have hd1 := hbx.out.cell 1
      go_wp2
      go_ret
      refine ⟨ret_bool ?_, hl.out⟩
      have hk := HK.out
      symm
      simp only [rightB, decide_eq_true_eq]
      refine ⟨by omega, by omega, fun d hd => ?_⟩
      obtain ⟨j, hj, rfl⟩ := List.mem_iff_getElem.1 hd
      exact hall.out j hj (by omega)
end Go.Proofs.Ytkbpecbpfajkfaa

namespace Go.Proofs.Ytkbpecbpfajkfaa
open Go.ChangeShapes Go.WideShapes Go.ChangeAt Go.RowKit
set_option linter.unusedVariables false
set_option linter.unusedSimpArgs false

/-! What the landed code does besides: copies of whole elements, makes with room, cuts by a number of whatever kind. -/
theorem run_copy_rw {P : Program} {w : World} {T T' e ty : TypeId} {sz : Nat} (hu : P.underlying T = some (.slice e)) (hs : (P.info? e).map (·.size) = some sz)
    (dp : Option Addr) (dn dcap : Nat) {u : Value} {m : Nat} {ys : List Value} (hr : Rw sz w u m ys) (h1 : ∀ q ∈ ys, q.oneCell' = true) (hm : m ≤ dn)
    {B g n cap off : Nat} {xs : List Value} (hown : w.ownsRow B e sz (.slice (some ⟨g, 0, none⟩) n cap) n xs) (hoff : off + m * sz ≤ n * sz) (hdp : m = 0 ∨ dp = some ⟨g, off, none⟩) :
    (Builtin.copy_ #[T, T'] ty #[.slice dp dn dcap, u]).run P w = .ok (goInt m) (w.setCells g off ys) := by
  obtain ⟨hl, hmm, a, c, rfl, hc, hr⟩ := hr
  cases hq : P.info? e with
  | none => simp [hq] at hs
  | some i =>
    have hi : i.size = sz := by simpa [hq] using hs
    have hmin : Nat.min m dn = m := Nat.min_eq_left hm
    by_cases h0 : m = 0
    · subst h0
      have : ys = [] := List.eq_nil_of_length_eq_zero (by rw [hl]; simp)
      subst this
      have hl0 : ∀ x : Addr, (loadCells x 0).run P w = .ok #[] w := fun x => run_loadCells_list (P := P) w x [] (fun j v hv => by simp at hv)
      cases a <;> cases dp <;> simp [hl0, Builtin.copy_, run_underlying hu, Builtin.lenOf, Builtin.firstCells, sizeOf, typeInfo, hq, hi, storeCells, World.setCells]
    · rcases hr with h | ⟨b, o, rfl, hr⟩
      · exact absurd h h0
      · rcases hdp with h | rfl
        · exact absurd h h0
        · have hld : (loadCells ⟨b, o, none⟩ (m * sz)).run P w = .ok ys.toArray w := by
            rw [← hl]; exact run_loadCells_list (P := P) w ⟨b, o, none⟩ ys (fun j v hv => by rw [Addr.add_mid]; exact hr j v hv)
          have hth := owns_there hown off (m * sz) hoff
          have hst := run_storeCells_cells (P := P) g off ys 0 w (fun j hj => by simpa using (hth j (by omega)).1) (fun j hj => by simpa using (hth j (by omega)).2) h1
          simp only [Nat.add_zero] at hst
          simp [Builtin.copy_, run_underlying hu, Builtin.lenOf, Builtin.firstCells, sizeOf, typeInfo, hq, hi, hmin, hld, hst]
theorem below_setCells {B : Nat} {w0 w : World} (h : Below B w0 w) {g : Nat} (hg : B ≤ g) : ∀ (vs : List Value) (o : Nat), Below B w0 (w.setCells g o vs) := by
  intro vs
  induction vs generalizing w with
  | nil => intro o; exact h
  | cons v vs ih => intro o; rw [World.setCells]; exact ih (Below.setCell h hg v) (o + 1)
theorem setCells_others (g : Nat) : ∀ (vs : List Value) (o : Nat) (w1 : World), (∀ k, k ≠ g → (w1.setCells g o vs).heap[k]? = w1.heap[k]?) ∧ (w1.setCells g o vs).heap.size = w1.heap.size := by
  intro vs
  induction vs with
  | nil => intro o w1; exact ⟨fun _ _ => rfl, rfl⟩
  | cons v vs ih =>
    intro o w1
    rw [World.setCells]
    have := ih (o + 1) (w1.setCell ⟨g, o, none⟩ v)
    exact ⟨fun k hk => (this.1 k hk).trans (heap_setCell_other w1 ⟨g, o, none⟩ k v hk), this.2.trans (by simp [World.setCell])⟩

/-- cells laid over others from a place on -/
def laid (xs : List Value) (off : Nat) (ys : List Value) : List Value := xs.take off ++ ys ++ xs.drop (off + ys.length)
theorem laid_bv (F : List UInt8) (o : Nat) (l : List UInt8) : laid (bv F) o (bv l) = bv (over F o l) := (bv_over F o l).symm
theorem wpList_copy_rw {P : Program} {w : World} {ops : Array Oper} {rest : List Oper} {o : Oper} {a : Act} {Q : Exit → Act → World → Prop} {T T' e : TypeId} {sz : Nat} (hu : P.underlying T = some (.slice e)) (hs : (P.info? e).map (·.size) = some sz)
    (hgd : o.guard = none) (d s : Operand) (ho : o.op = .call { callee := .builtin .copy, args := #[d, s], argTypes := #[T, T'] })
    (dp : Option Addr) (dn dcap : Nat) (hd : a.eval d = .slice dp dn dcap) (u : Value) (m : Nat) (ys : List Value) (hx : a.eval s = u) (hr : Rw sz w u m ys) (h1 : ∀ q ∈ ys, q.oneCell' = true) (hm : m ≤ dn)
    (B g n cap off : Nat) (xs : List Value) (hown : w.ownsRow B e sz (.slice (some ⟨g, 0, none⟩) n cap) n xs) (hoff : off + m * sz ≤ n * sz) (hdp : m = 0 ∨ dp = some ⟨g, off, none⟩)
    (w0 : World) (hb : Below B w0 w) (hBg : B ≤ g)
    (h : ∀ w', w'.ownsRow B e sz (.slice (some ⟨g, 0, none⟩) n cap) n (laid xs off ys) → Below B w0 w' → (∀ k, k ≠ g → w'.heap[k]? = w.heap[k]?) → w'.heap.size = w.heap.size → wpList P ops Q rest (a.put o.dst (.int .i64 (m : Int))) w') : wpList P ops Q (o :: rest) a w := by
  refine wpList_plain hgd fun K hK => ?_
  have hrun := run_copy_rw (ty := o.type) (T' := T') hu hs dp dn dcap hr h1 hm hown hoff hdp
  unfold Go.Oper.wp
  simp [execOp, ho, resolve, invoke, builtin, hd, hx, hrun, Result.andThen]
  have hk := setCells_others g ys off w
  refine hK _ _ (h _ (owns_setCells hown ys off (by rw [hr.1]; exact hoff)).1 (below_setCells hb hBg ys off) hk.1 hk.2)

/-- 's[l:]', l of whatever kind: the value itself -/
theorem wpList_slice_lo' {P : Program} {w : World} {ops : Array Oper} {rest : List Oper} {o : Oper} {a : Act} {Q : Exit → Act → World → Prop} {T e : TypeId} {sz : Nat} (ht : P.underlying T = some (.slice e)) (hs : (P.info? e).map (·.size) = some sz)
    (hgd : o.guard = none) (x lo : Operand) (ho : o.op = .slice T x (some lo) none none) (ad : Option Addr) (n cap : Nat) (hx : a.eval x = .slice ad n cap) (kd : IntKind) (L : Int) (l : Nat) (hlo : a.eval lo = .int kd L) (hL : L = (l : Int)) (hl : l ≤ n)
    (h : ∀ dp, (cap = l ∨ dp = ad.map (·.add (l * sz))) → wpList P ops Q rest (a.put o.dst (.slice dp (n - l) (cap - l))) w) : wpList P ops Q (o :: rest) a w := by
  subst hL
  refine wpList_plain hgd fun K hK => ?_
  have hrun : (Instr.sliceAt T (.slice ad n cap) (some (.int kd (l : Int))) none none).run P w = .ok (Go.sliced ad l n cap sz) w := by
    rw [run_sliceAt_slice w T _ _ _ _ (elem_of ht), run_slice_l w T ad n cap (elem_of ht) kd _ (by omega) (by omega), elem_is ht, run_size hs]
    simp [Result.andThen]
  unfold Go.Oper.wp
  simp [execOp, ho, hx, hlo, hrun, Result.andThen]
  refine hK _ _ ?_
  unfold Go.sliced
  by_cases hc : cap = l
  · exact h _ (.inl hc)
  · rw [if_neg hc]; exact h _ (.inr rfl)

/-- 'make([]T, 0, n)' -/
theorem wpList_make_room {P : Program} {w : World} {ops : Array Oper} {rest : List Oper} {o : Oper} {a : Act} {Q : Exit → Act → World → Prop} {e : TypeId} {sz bytes : Nat} {z : Value} (he : Elem P e sz bytes z)
    (hg : o.guard = none) (l c : Operand) (t : TypeId) (hop : o.op = Op.makeSlice t l c) (h1 : P.underlying t = some (.slice e)) (C : Int) (n : Nat) (hl : a.eval l = .int .i64 0) (hc : a.eval c = .int .i64 C) (hC : C = (n : Int))
    (b2 : bytes * n ≤ 281474976710656) (b3 : n ≤ maxLen)
    (hK : ∀ w', w'.ownsRow w.heap.size e sz (.slice (some ⟨w.heap.size, 0, none⟩) 0 n) 0 [] → Later w w' → wpList P ops Q rest (a.put o.dst (.slice (some ⟨w.heap.size, 0, none⟩) 0 n)) w') :
    wpList P ops Q (o :: rest) a w := by
  obtain ⟨i0, hi, hz0, hz1, hz2⟩ := he
  refine wpList_make_own w hg l c t hop w.heap.size e i0 z sz h1 hi hz0 hz1 .i64 .i64 C n hl hc hC (by rw [hz2]; exact b2) b3 (Nat.le_refl _) ?_
  intro w' ho hgr
  exact hK w' ho (Below.grown0 hgr)

theorem owns_rebase {w : World} {B B' : Nat} {e : TypeId} {sz : Nat} {v : Value} {n : Nat} {xs : List Value} (h : w.ownsRow B e sz v n xs) (hb : B' ≤ B) : w.ownsRow B' e sz v n xs := by
  refine ⟨h.1, ?_⟩
  rcases h.2 with hn | ⟨g, cap, cur, rfl, hbg, rest⟩
  · exact .inl hn
  · exact .inr ⟨g, cap, cur, rfl, Nat.le_trans hb hbg, rest⟩
/-- an element of an array's value -/
theorem run_index_arr {P : Program} (w : World) (t e : TypeId) (n : Nat) {k0 : IntKind} (ht : P.underlying t = some (.array n e)) (he : P.underlying e = some (.int k0)) (hs : (P.info? e).map (·.size) = some 1) (cs : Array Value) (k : IntKind) (j : Nat) (hj : j < n) (v : Value) (hv : cs[j]? = some v) :
    (Instr.index t (.agg cs) (.int k (j : Int))).run P w = .ok v w := by
  have hagg : (isAgg e).run P w = .ok false w := by
    unfold isAgg
    rw [Sem.run_bind, run_underlying he w]
    simp
  have hj' : ((j : Int) < (n : Int)) := by omega
  simp [Instr.index, asIntOf, run_underlying ht, run_size hs, part, hagg, hj', hj, hv]
theorem made1 (n : Nat) : (madeCells (Value.int .u8 0).cells (n * 1)).toList = bv (List.replicate n 0) := by
  rw [bv_replicate, Nat.mul_one]; exact madeCells_rep _ 1 _ (by omega)
theorem over_full (F l : List UInt8) (h : F.length = l.length) : over F 0 l = l := by
  simp [over, List.drop_of_length_le (show F.length ≤ l.length by omega)]
theorem over_all (F l : List UInt8) (h : F.length = l.length) : over F (0 * 64) l = l := by rw [Nat.zero_mul]; exact over_full F l h
/-- one block more is laid -/
theorem over_step (Z l : List UInt8) (a k : Nat) (hk : (k + 1) * 64 ≤ l.length) (hz : a + l.length ≤ Z.length) : over Z a (l.take ((k + 1) * 64)) = over (over Z a (l.take (k * 64))) (a + k * 64) (seg l (k * 64) 64) := by
  have h3 : (l.take (k * 64)).length = k * 64 := by simp; omega
  have hx := seg_length l (k * 64) 64 (by omega)
  have := over_over Z a (l.take (k * 64)) (seg l (k * 64) 64) (by rw [h3, hx]; omega)
  rw [h3, ← take_snoc_seg] at this
  rw [this, show (k + 1) * 64 = k * 64 + 64 from by omega]
end Go.Proofs.Ytkbpecbpfajkfaa
