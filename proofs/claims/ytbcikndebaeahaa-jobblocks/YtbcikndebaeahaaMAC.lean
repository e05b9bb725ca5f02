import Derived.Test.YtbcikndebaeahaaMAB
namespace Go.Proofs.Ytbcikndebaeahaa
open Go.ChangeShapes Go.WideShapes Go.ChangeAt Go.RowKit
set_option linter.unusedVariables false
set_option maxRecDepth 4000
set_option linter.unusedSimpArgs false
theorem Try.elem_block : Elem Try.prog 58 64 64 (.agg (Array.replicate 64 (.int .u8 0))) := by
  have h : (Try.prog.info? 58).map (fun i => (i.zero, i.size, i.bytes)) = some (some (.agg (Array.replicate 64 (.int .u8 0))), 64, 64) := by kernel_rfl
  obtain ⟨i, hi, h1, h2, h3⟩ := info_parts h
  exact ⟨i, hi, h1, h2, h3⟩
theorem Try.elem_u8 : Elem Try.prog 5 1 1 (.int .u8 0) := by
  obtain ⟨i, hi, h1, h2, h3⟩ := info_parts Try.info_u8
  exact ⟨i, hi, h1, h2, h3⟩
theorem rcopy_c {v : Value} {n : Nat} {F : List UInt8} (w : World) (B : Nat) (hB : B ≤ w.heap.size) (h : Rw 64 w v n (bv F)) (hn : n * 64 ≤ 140737488355328) :
    Calls Try.prog 39 #[v] w fun e w' => ∃ v', e = .returned v' ∧ Below B w w' ∧ w'.ownsRow B 58 64 v' n (bv F) := by
  have hown : Hid ((w.alloc (.cells #[] 58)).ownsRow B 58 64 (.slice (some ⟨w.heap.size, 0, none⟩) 0 0) 0 []) := World.ownsRow_lit w #[] 0 hB (by simp [maxLen]) rfl
  have hb : Hid (Below B w (w.alloc (.cells #[] 58))) := (Below.refl _ _).alloc hB _
  have hr := hide (h.later ((Later.refl w).alloc (.cells #[] 58)))
  have hlen := h.2.1
  unfold maxLen at hlen
  obtain ⟨_, _, a, cap, rfl, _, _⟩ := h
  go_enter Try.func39, Try.ntmps39
  go_wp2_with (at_builtin; refine wpList_append_rw Try.elem_block Try.underlying22 rfl (by decide) rfl (.tmp 3) (.tmp 4) rfl B _ 0 [] rfl hown.out _ n (bv F) rfl hr.out (bv_one F) ?c1 ?c2 ?c3 w hb.out ?_)
  case c1 => omega
  case c2 => unfold maxLen; omega
  case c3 => simp; omega
  intro v' w' ho hbl _
  go_wp2
  go_ret
  exact ⟨_, rfl, hbl, by simpa using ho⟩
theorem owns_kept {w w' : World} {B : Nat} {e : TypeId} {sz : Nat} {v : Value} {n : Nat} {xs : List Value} (h : w.ownsRow B e sz v n xs) (hk : ∀ g, v.ownBlock = some g → w'.heap[g]? = w.heap[g]?) : w'.ownsRow B e sz v n xs := by
  refine ⟨h.1, ?_⟩
  rcases h.2 with hn | ⟨g, cap, cur, rfl, hb, hg, rest⟩
  · exact .inl hn
  · exact .inr ⟨g, cap, cur, rfl, hb, by rw [hk g rfl]; exact hg, rest⟩
theorem box_grown {w w' : World} {g : Nat} {t : TypeId} {xs : List Value} {B : Nat} {e : TypeId} {sz : Nat} {v : Value} {n : Nat} {ys : List Value} (hB : Box w g t xs) (ho : w.ownsRow B e sz v n ys) (hne : t ≠ e) (hg : w.grownBy w' v.ownBlock) : Box w' g t xs := by
  unfold Box
  rw [hg.block g hB.lt ?_]
  · exact hB
  · intro he
    rcases ho.2 with ⟨rfl, _⟩ | ⟨g', cap, cur, rfl, _, hg', _⟩
    · simp [Value.ownBlock] at he
    · simp [Value.ownBlock] at he
      subst he
      unfold Box at hB
      rw [hg'] at hB
      simp at hB
      exact hne hB.2.symm
set_option maxHeartbeats 2000000 in
theorem rread_yes (ba oa len ca : Nat) (F : List UInt8) (a n : Nat) (w : World) (hlen : len ≤ 64) (hF : F.length = len * 64) (ha : a + n ≤ len) (hr : n = 0 ∨ w.rangeAt ba oa (bv F)) :
    Calls Try.prog 58 #[.slice (some ⟨ba, oa, none⟩) len ca, .int .u64 a, .int .i64 n] w fun e w' => ∃ v, e = .returned (.tuple #[v, .int .i64 0]) ∧ Later w w' ∧ w'.ownsRow w.heap.size 5 1 v (n * 64) (bv (seg F (a * 64) (n * 64))) := by
  have hw : withinB len a n = true := by simp [withinB]; omega
  have Hr := hide hr
  clear hr
  go_enter Try.func58, Try.ntmps58
  go_wp2_with (go_at_call 69; refine (rwithin_c _ _ _ _ (by omega) (by omega)).mono ?_; rintro e w1 ⟨rfl, hw1⟩; have hw2 := hw1.symm; subst hw2; clear hw1)
  go_loopw [8, 9] (fun v i wr => ∃ k : Nat, k ≤ n ∧ i = .int .i64 k ∧ Hid (wr.ownsRow w.heap.size 5 1 v (k * 64) (bv (seg F (a * 64) (k * 64)))) ∧ Hid (Later w wr)) (fun _ i _ => n - (intOf i).toNat)
  case atStart => exact ⟨0, Nat.zero_le _, rfl, by simpa [Hid, seg_zero, bv] using World.ownsRow_nil _ _ _ _, Later.refl w⟩
  case round =>
    obtain ⟨k, hk, rfl, hown, hbl⟩ := hrel
    by_cases hlt : k < n
    · have hrg := hide (hbl.out.range (Hr.out.resolve_left (by omega)))
      have hx := hide (by have := range_part hrg.out ((a + k) * 64) 64; rwa [bv_part] at this)
      have hxl := hide (seg_length F ((a + k) * 64) 64 (by omega))
      have hown1 := hide (hown.out.alloc (.cells (Array.replicate 64 (.int .u8 0)) 58))
      have hbl1 := hide (hbl.out.alloc (.cells (Array.replicate 64 (.int .u8 0)) 58))
      have hbox := hide (Box.new wr 58 (Array.replicate 64 (.int .u8 0)))
      have hszr := hbl.out.size
      have hHB := hide hown.out.lt
      go_wp2_with (first
        | refine wpList_load_mid rfl 58 (.tmp 31) rfl ba (oa + (a + k) * 64) rfl (bv (seg F ((a + k) * 64) 64)) _ hx.out Try.underlying58 rfl (by rw [Try.info_block, bv_length, hxl.out]) ?_
        | refine wpList_store_new rfl 58 (.tmp 10) (.tmp 32) rfl wr.heap.size (bv (seg F ((a + k) * 64) 64)) rfl rfl _ hbox.out (by rw [bv_length, hxl.out]; simp) (by rw [bv_length, hxl.out, Try.info_block]) (bv_one _) w hbl1.out hszr ?_)
      intro w2 hbox2 hl2 hk2 hs2
      have hown2 : Hid (w2.ownsRow w.heap.size 5 1 u8 (k * 64) (bv (seg F (a * 64) (k * 64)))) := owns_kept hown1.out (fun g hg => hk2 g (by have := hHB.out g hg; omega))
      have Hbox2 := hide hbox2
      have Hl2 := hide hl2
      clear hk2 hs2 hbox2 hl2 hown1 hbl1 hbox hHB hx hrg hown hbl hszr
      generalize wr.heap.size = G at *
      go_wp2_with fail
      go_loopw [8, 11] (fun v i wq => ∃ j : Nat, j ≤ 64 ∧ i = .int .i64 j ∧ Hid (wq.ownsRow w.heap.size 5 1 v (k * 64 + j) (bv (seg F (a * 64) (k * 64 + j)))) ∧ Hid (Later w wq) ∧ Hid (Box wq G 58 (bv (seg F ((a + k) * 64) 64)))) (fun _ i _ => 64 - (intOf i).toNat)
      case atStart => exact ⟨0, Nat.zero_le _, rfl, hown2, Hl2, Hbox2⟩
      case round =>
        obtain ⟨j, hj, rfl, hownj, hlj, hboxj⟩ := hrel
        by_cases hltj : j < 64
        · have hXl := hxl.out
          have hbyte : wr.cell? ⟨G, j, none⟩ = some (.int .u8 ((seg F ((a + k) * 64) 64)[j].toNat : Int)) := by
            rw [hboxj.out.cell j, bv_get_lt _ j (by omega)]
          have hsn : Hid (seg F (a * 64) (k * 64 + (j + 1)) = seg F (a * 64) (k * 64 + j) ++ [(seg F ((a + k) * 64) 64)[j]]) := by
            unfold Hid
            rw [← Nat.add_assoc, seg_snoc F (a * 64) (k * 64 + j) (by omega)]
            congr 2
            simp [seg]
            congr 1
            omega
          have hsz := hlj.out.size
          have hBr := hide (hlj.out.alloc (.cells #[.int .u8 ((seg F ((a + k) * 64) 64)[j].toNat : Int)] 5))
          have hbxr := hide (hboxj.out.alloc (.cells #[.int .u8 ((seg F ((a + k) * 64) 64)[j].toNat : Int)] 5))
          have hor := hide (hownj.out.alloc (.cells #[.int .u8 ((seg F ((a + k) * 64) 64)[j].toNat : Int)] 5))
          have hone := hide (Bs.one wr (seg F ((a + k) * 64) 64)[j] 5)
          generalize (seg F ((a + k) * 64) 64)[j] = c at *
          clear hownj hboxj hlj
          go_wp2_with (at_builtin; refine wpList_append_bs rfl (.tmp 37) (.tmp 41) rfl w.heap.size _ (k * 64 + j) _ rfl hor.out _ [c] rfl hone.out ?c1 ?c2 w hBr.out ?_)
          case c1 => simp; omega
          case c2 => simp; omega
          intro v' w' ho' hb' hg'
          have R : Hid (w'.ownsRow w.heap.size 5 1 v' (k * 64 + (j + 1)) (bv (seg F (a * 64) (k * 64 + (j + 1)))) ∧ Later w w' ∧ Box w' G 58 (bv (seg F ((a + k) * 64) 64))) := by
            refine ⟨?_, hb', box_grown hbxr.out hor.out (by decide) hg'⟩
            rw [hsn.out]
            exact ho'
          clear ho' hb' hg' hbyte hor hone hbxr hBr
          go_wp2
          go_roundw
          case rel => exact ⟨j + 1, by omega, by go_num, R.out.1, R.out.2.1, R.out.2.2⟩
          case measure => simp [intOf]; omega
        · have hj64 : Hid (j = 64) := by unfold Hid; omega
          go_wp2
          go_roundw
          case rel =>
            refine ⟨k + 1, by omega, by go_num, ?_, hlj⟩
            have := hownj.out
            rw [hj64.out] at this
            unfold Hid
            rw [show (k + 1) * 64 = k * 64 + 64 from by omega]
            exact this
          case measure => simp [intOf]; omega
    · have hkn : Hid (k = n) := by unfold Hid; omega
      go_wp2
      go_ret2
      refine ⟨_, rfl, hbl.out, ?_⟩
      have := hown.out
      rwa [hkn.out] at this
theorem rread_zero (ad : Option Addr) (len ca : Nat) (a : Nat) (w : World) (hlen : len ≤ 64) (ha : a ≤ len) :
    Calls Try.prog 58 #[.slice ad len ca, .int .u64 a, .int .i64 0] w fun e w' => e = .returned (.tuple #[.slice none 0 0, .int .i64 0]) ∧ w' = w := by
  have hw : withinB len a 0 = true := by simp [withinB]; omega
  go_enter Try.func58, Try.ntmps58
  go_wp2_with (go_at_call 69; refine (rwithin_c _ _ _ _ (by omega) (by omega)).mono ?_; rintro e w1 ⟨rfl, hw1⟩; have hw2 := hw1.symm; subst hw2; clear hw1)
  refine wp_loop_rounds 1 ?_
  rw [rounds_succ]
  go_wp2
  go_ret2
  exact ⟨rfl, rfl⟩
theorem rread_long (ad : Option Addr) (len ca : Nat) (a : Nat) (n : Int) (w : World) (hlen : 64 < len) (hm : len ≤ maxLen) :
    Calls Try.prog 58 #[.slice ad len ca, .int .u64 a, .int .i64 n] w fun e w' => e = .returned (.tuple #[.slice none 0 0, .int .i64 4]) ∧ w' = w := by
  unfold maxLen at hm
  go_enter Try.func58, Try.ntmps58
  go_wp2
  go_ret2
  exact ⟨rfl, rfl⟩
theorem rread_range (ad : Option Addr) (len ca : Nat) (a : Nat) (n : Int) (w : World) (hlen : len ≤ 64) (ha : a ≤ 18446744073709551615) (hw : withinB len a n = false) :
    Calls Try.prog 58 #[.slice ad len ca, .int .u64 a, .int .i64 n] w fun e w' => e = .returned (.tuple #[.slice none 0 0, .int .i64 5]) ∧ w' = w := by
  go_enter Try.func58, Try.ntmps58
  go_wp2_with (go_at_call 69; refine (rwithin_c _ _ _ _ (by omega) (by omega)).mono ?_; rintro e w1 ⟨rfl, hw1⟩; have hw2 := hw1.symm; subst hw2; clear hw1)
  go_ret2
  exact ⟨rfl, rfl⟩
/-- what is read of a store of len blocks, the bytes F -/
def readE (len : Nat) (a : Nat) (n : Int) : Int := if 64 < len then 4 else if withinB len a n then 0 else 5
def readL (len : Nat) (F : List UInt8) (a : Nat) (n : Int) : List UInt8 := if 64 < len then [] else if withinB len a n then seg F (a * 64) (n.toNat * 64) else []
theorem rread_c {v : Value} {len : Nat} {F : List UInt8} (a : Nat) (n : Int) (w : World) (h : Rw 64 w v len (bv F)) (ha : a ≤ 18446744073709551615) :
    Calls Try.prog 58 #[v, .int .u64 a, .int .i64 n] w fun e w' => ∃ v', e = .returned (.tuple #[v', .int .i64 (readE len a n)]) ∧ Later w w' ∧ w'.ownsRow w.heap.size 5 1 v' (readL len F a n).length (bv (readL len F a n)) := by
  obtain ⟨hl, hm, ad, ca, rfl, _, hr⟩ := h
  rw [bv_length] at hl
  unfold readE readL
  by_cases h1 : 64 < len
  · simp only [if_pos h1]
    exact (rread_long ad len ca a n w h1 hm).mono fun e w' ⟨he, hw⟩ => ⟨_, he, by rw [hw]; exact Later.refl w, World.ownsRow_nil _ _ _ _⟩
  · simp only [if_neg h1]
    by_cases h2 : withinB len a n = true
    · simp only [h2, if_true]
      have h2' := h2
      simp [withinB] at h2'
      obtain ⟨k, rfl⟩ := Int.eq_ofNat_of_zero_le h2'.1
      rw [Int.toNat_natCast]
      by_cases h0 : k = 0
      · subst h0
        refine (rread_zero ad len ca a w (by omega) (by omega)).mono fun e w' ⟨he, hw⟩ => ⟨_, he, by rw [hw]; exact Later.refl w, ?_⟩
        simpa [seg_zero, bv] using World.ownsRow_nil w' _ _ _
      · rcases hr with rfl | ⟨ba, oa, rfl, hr⟩
        · omega
        · refine (rread_yes ba oa len ca F a k w (by omega) hl (by omega) (.inr hr)).mono fun e w' he => ?_
          rwa [seg_length F (a * 64) (k * 64) (by omega)]
    · have h2' : withinB len a n = false := by simpa using h2
      simp only [h2', Bool.false_eq_true, if_false]
      exact (rread_range ad len ca a n w (by omega) ha h2').mono fun e w' ⟨he, hw⟩ => ⟨_, he, by rw [hw]; exact Later.refl w, World.ownsRow_nil _ _ _ _⟩
end Go.Proofs.Ytbcikndebaeahaa

namespace Go.Proofs.Ytbcikndebaeahaa
open Go.ChangeShapes Go.WideShapes Go.ChangeAt Go.RowKit
set_option linter.unusedVariables false
set_option maxRecDepth 4000
set_option linter.unusedSimpArgs false
def z64 : Value := .agg (Array.replicate 64 (.int .u8 0))
theorem Try.elem_z64 : Elem Try.prog 58 64 64 z64 := Try.elem_block
theorem made64 (n : Nat) : (madeCells z64.cells (n * 64)).toList = bv (List.replicate (n * 64) 0) := by
  rw [bv_replicate]; exact madeCells_rep _ 64 _ (by omega)
end Go.Proofs.Ytbcikndebaeahaa

namespace Go.Proofs.Ytbcikndebaeahaa
open Go.ChangeShapes Go.WideShapes Go.ChangeAt Go.RowKit
set_option linter.unusedVariables false
set_option maxRecDepth 4000
set_option linter.unusedSimpArgs false
theorem of_c {v : Value} {l : List UInt8} (a : Nat) (w : World) (h : Bs w v l) (ha : a + 64 ≤ l.length) :
    Calls Try.prog 31 #[v, .int .i64 a] w fun e w' => e = .returned (.agg (bv (seg l a 64)).toArray) ∧ Later w w' := by
  obtain ⟨hm, ad, cap, rfl, _, h⟩ := h
  rcases h with rfl | ⟨b, off, rfl, hc⟩
  · simp at ha
  · exact of_yes b off l.length cap l a w rfl hm ha hc
end Go.Proofs.Ytbcikndebaeahaa

namespace Go.Proofs.Ytbcikndebaeahaa
open Go.ChangeShapes Go.WideShapes Go.ChangeAt Go.RowKit
set_option linter.unusedVariables false
set_option maxRecDepth 4000
set_option linter.unusedSimpArgs false
/-- bytes laid over others from a place on -/
def over (F : List UInt8) (o : Nat) (l : List UInt8) : List UInt8 := F.take o ++ l ++ F.drop (o + l.length)
theorem over_get (F : List UInt8) (o : Nat) (l : List UInt8) (h : o + l.length ≤ F.length) (i : Nat) : (over F o l)[i]? = if o ≤ i ∧ i < o + l.length then l[i - o]? else F[i]? := by
  unfold over
  have h1 : (F.take o).length = o := by simp; omega
  by_cases c1 : i < o
  · rw [if_neg (by omega), List.append_assoc, List.getElem?_append_left (by omega), List.getElem?_take_of_lt c1]
  · by_cases c2 : i < o + l.length
    · rw [if_pos (by omega), List.getElem?_append_left (by simp; omega), List.getElem?_append_right (by omega), h1]
    · rw [if_neg (by omega), List.getElem?_append_right (by simp; omega), List.getElem?_drop]
      congr 1
      simp
      omega
theorem over_length (F : List UInt8) (o : Nat) (l : List UInt8) (h : o + l.length ≤ F.length) : (over F o l).length = F.length := by simp [over]; omega
theorem bv_over (F : List UInt8) (o : Nat) (l : List UInt8) : bv (over F o l) = (bv F).take o ++ bv l ++ (bv F).drop (o + (bv l).length) := by simp [over, bv, List.map_take, List.map_drop]
end Go.Proofs.Ytbcikndebaeahaa

namespace Go.Proofs.Ytbcikndebaeahaa
open Go.ChangeShapes Go.WideShapes Go.ChangeAt Go.RowKit
set_option linter.unusedVariables false
set_option maxRecDepth 4000
set_option linter.unusedSimpArgs false
/-! What the landed code does besides: copies of whole elements, makes with room, cuts by a number of whatever kind. -/
theorem run_copy_rw {P : Program} {w : World} {T T' e ty : TypeId} {sz : Nat} (hu : P.underlying T = some (.slice e)) (hs : (P.info? e).map (·.size) = some sz)
    (dp : Option Addr) (dn dcap : Nat) {u : Value} {m : Nat} {ys : List Value} (hr : Rw sz w u m ys) (h1 : ∀ q ∈ ys, q.oneCell' = true) (hm : m ≤ dn)
    {B g n cap off : Nat} {xs : List Value} (hown : w.ownsRow B e sz (.slice (some ⟨g, 0, none⟩) n cap) n xs) (hoff : off + m * sz ≤ n * sz) (hdp : m = 0 ∨ dp = some ⟨g, off, none⟩) :
    (Builtin.copy_ #[T, T'] ty #[.slice dp dn dcap, u]).run P w = .ok (goInt m) (w.setCells g off ys) := by
  obtain ⟨hl, hmm, a, c, rfl, hc, hr⟩ := hr
  cases hq : P.info? e with
  | none => simp [hq] at hs
  | some i =>
    have hi : i.size = sz := by simpa [hq] using hs
    have hmin : Nat.min m dn = m := Nat.min_eq_left hm
    by_cases h0 : m = 0
    · subst h0
      have : ys = [] := List.eq_nil_of_length_eq_zero (by rw [hl]; simp)
      subst this
      have hl0 : ∀ x : Addr, (loadCells x 0).run P w = .ok #[] w := fun x => run_loadCells_list (P := P) w x [] (fun j v hv => by simp at hv)
      cases a <;> cases dp <;> simp [hl0, Builtin.copy_, run_underlying hu, Builtin.lenOf, Builtin.firstCells, sizeOf, typeInfo, hq, hi, storeCells, World.setCells]
    · rcases hr with h | ⟨b, o, rfl, hr⟩
      · exact absurd h h0
      · rcases hdp with h | rfl
        · exact absurd h h0
        · have hld : (loadCells ⟨b, o, none⟩ (m * sz)).run P w = .ok ys.toArray w := by
            rw [← hl]; exact run_loadCells_list (P := P) w ⟨b, o, none⟩ ys (fun j v hv => by rw [Addr.add_mid]; exact hr j v hv)
          have hth := owns_there hown off (m * sz) hoff
          have hst := run_storeCells_cells (P := P) g off ys 0 w (fun j hj => by simpa using (hth j (by omega)).1) (fun j hj => by simpa using (hth j (by omega)).2) h1
          simp only [Nat.add_zero] at hst
          simp [Builtin.copy_, run_underlying hu, Builtin.lenOf, Builtin.firstCells, sizeOf, typeInfo, hq, hi, hmin, hld, hst]
theorem below_setCells {B : Nat} {w0 w : World} (h : Below B w0 w) {g : Nat} (hg : B ≤ g) : ∀ (vs : List Value) (o : Nat), Below B w0 (w.setCells g o vs) := by
  intro vs
  induction vs generalizing w with
  | nil => intro o; exact h
  | cons v vs ih => intro o; rw [World.setCells]; exact ih (Below.setCell h hg v) (o + 1)
theorem setCells_others (g : Nat) : ∀ (vs : List Value) (o : Nat) (w1 : World), (∀ k, k ≠ g → (w1.setCells g o vs).heap[k]? = w1.heap[k]?) ∧ (w1.setCells g o vs).heap.size = w1.heap.size := by
  intro vs
  induction vs with
  | nil => intro o w1; exact ⟨fun _ _ => rfl, rfl⟩
  | cons v vs ih =>
    intro o w1
    rw [World.setCells]
    have := ih (o + 1) (w1.setCell ⟨g, o, none⟩ v)
    exact ⟨fun k hk => (this.1 k hk).trans (heap_setCell_other w1 ⟨g, o, none⟩ k v hk), this.2.trans (by simp [World.setCell])⟩
/-- cells laid over others from a place on -/
def laid (xs : List Value) (off : Nat) (ys : List Value) : List Value := xs.take off ++ ys ++ xs.drop (off + ys.length)
theorem laid_bv (F : List UInt8) (o : Nat) (l : List UInt8) : laid (bv F) o (bv l) = bv (over F o l) := (bv_over F o l).symm
theorem wpList_copy_rw {P : Program} {w : World} {ops : Array Oper} {rest : List Oper} {o : Oper} {a : Act} {Q : Exit → Act → World → Prop} {T T' e : TypeId} {sz : Nat} (hu : P.underlying T = some (.slice e)) (hs : (P.info? e).map (·.size) = some sz)
    (hgd : o.guard = none) (d s : Operand) (ho : o.op = .call { callee := .builtin .copy, args := #[d, s], argTypes := #[T, T'] })
    (dp : Option Addr) (dn dcap : Nat) (hd : a.eval d = .slice dp dn dcap) (u : Value) (m : Nat) (ys : List Value) (hx : a.eval s = u) (hr : Rw sz w u m ys) (h1 : ∀ q ∈ ys, q.oneCell' = true) (hm : m ≤ dn)
    (B g n cap off : Nat) (xs : List Value) (hown : w.ownsRow B e sz (.slice (some ⟨g, 0, none⟩) n cap) n xs) (hoff : off + m * sz ≤ n * sz) (hdp : m = 0 ∨ dp = some ⟨g, off, none⟩)
    (w0 : World) (hb : Below B w0 w) (hBg : B ≤ g)
    (h : ∀ w', w'.ownsRow B e sz (.slice (some ⟨g, 0, none⟩) n cap) n (laid xs off ys) → Below B w0 w' → (∀ k, k ≠ g → w'.heap[k]? = w.heap[k]?) → w'.heap.size = w.heap.size → wpList P ops Q rest (a.put o.dst (.int .i64 (m : Int))) w') : wpList P ops Q (o :: rest) a w := by
  refine wpList_plain hgd fun K hK => ?_
  have hrun := run_copy_rw (ty := o.type) (T' := T') hu hs dp dn dcap hr h1 hm hown hoff hdp
  unfold Go.Oper.wp
  simp [execOp, ho, resolve, invoke, builtin, hd, hx, hrun, Result.andThen]
  have hk := setCells_others g ys off w
  refine hK _ _ (h _ (owns_setCells hown ys off (by rw [hr.1]; exact hoff)).1 (below_setCells hb hBg ys off) hk.1 hk.2)
/-- 'make([]T, 0, n)' -/
theorem wpList_make_room {P : Program} {w : World} {ops : Array Oper} {rest : List Oper} {o : Oper} {a : Act} {Q : Exit → Act → World → Prop} {e : TypeId} {sz bytes : Nat} {z : Value} (he : Elem P e sz bytes z)
    (hg : o.guard = none) (l c : Operand) (t : TypeId) (hop : o.op = Op.makeSlice t l c) (h1 : P.underlying t = some (.slice e)) (C : Int) (n : Nat) (hl : a.eval l = .int .i64 0) (hc : a.eval c = .int .i64 C) (hC : C = (n : Int))
    (b2 : bytes * n ≤ 281474976710656) (b3 : n ≤ maxLen)
    (hK : ∀ w', w'.ownsRow w.heap.size e sz (.slice (some ⟨w.heap.size, 0, none⟩) 0 n) 0 [] → Later w w' → wpList P ops Q rest (a.put o.dst (.slice (some ⟨w.heap.size, 0, none⟩) 0 n)) w') :
    wpList P ops Q (o :: rest) a w := by
  obtain ⟨i0, hi, hz0, hz1, hz2⟩ := he
  refine wpList_make_own w hg l c t hop w.heap.size e i0 z sz h1 hi hz0 hz1 .i64 .i64 C n hl hc hC (by rw [hz2]; exact b2) b3 (Nat.le_refl _) ?_
  intro w' ho hgr
  exact hK w' ho (Below.grown0 hgr)
theorem owns_rebase {w : World} {B B' : Nat} {e : TypeId} {sz : Nat} {v : Value} {n : Nat} {xs : List Value} (h : w.ownsRow B e sz v n xs) (hb : B' ≤ B) : w.ownsRow B' e sz v n xs := by
  refine ⟨h.1, ?_⟩
  rcases h.2 with hn | ⟨g, cap, cur, rfl, hbg, rest⟩
  · exact .inl hn
  · exact .inr ⟨g, cap, cur, rfl, Nat.le_trans hb hbg, rest⟩
/-- an element of an array's value -/
theorem run_index_arr {P : Program} (w : World) (t e : TypeId) (n : Nat) {k0 : IntKind} (ht : P.underlying t = some (.array n e)) (he : P.underlying e = some (.int k0)) (hs : (P.info? e).map (·.size) = some 1) (cs : Array Value) (k : IntKind) (j : Nat) (hj : j < n) (v : Value) (hv : cs[j]? = some v) :
    (Instr.index t (.agg cs) (.int k (j : Int))).run P w = .ok v w := by
  have hagg : (isAgg e).run P w = .ok false w := by
    unfold isAgg
    rw [Sem.run_bind, run_underlying he w]
    simp
  have hj' : ((j : Int) < (n : Int)) := by omega
  simp [Instr.index, asIntOf, run_underlying ht, run_size hs, part, hagg, hj', hj, hv]
theorem over_full (F l : List UInt8) (h : F.length = l.length) : over F 0 l = l := by
  simp [over, List.drop_of_length_le (show F.length ≤ l.length by omega)]
end Go.Proofs.Ytbcikndebaeahaa
