import Derived.Test.YtbcikndebaeahaaMAU
import Derived.Test.YtbcikndebaeahaaMAW
import Derived.Test.YtbcikndebaeahaaMAP
import Derived.Test.YtbcikndebaeahaaMAN
import Derived.Test.YtbcikndebaeahaaMAO
import Derived.Test.YtbcikndebaeahaaMAC
namespace Go.Proofs.Ytbcikndebaeahaa
open Go.ChangeShapes Go.WideShapes Go.ChangeAt Go.RowKit
set_option linter.unusedVariables false
set_option maxRecDepth 4000
set_option linter.unusedSimpArgs false
/-! The landed job: who works at it has the unit and the job in new memory. -/
set_option maxHeartbeats 1000000 in
theorem clone3_c {v : Value} {n : Nat} {xs : List Value} (w : World) (h : Rw 3 w v n xs) (h1 : ∀ q ∈ xs, q.oneCell' = true) (hn : n ≤ 1000000) :
    Calls Try.prog 44 #[v] w fun e w' => ∃ v', e = .returned v' ∧ Later w w' ∧ w'.ownsRow w.heap.size 30 3 v' n xs ∧ ∀ k c, v = .slice none k c → v' = .slice none 0 0 := by
  have hown : Hid ((w.alloc (.cells #[] 30)).ownsRow w.heap.size 30 3 (.slice (some ⟨w.heap.size, 0, none⟩) 0 0) 0 []) := World.ownsRow_lit w #[] 0 (Nat.le_refl _) (by simp [maxLen]) rfl
  have hb : Hid (Below w.heap.size w (w.alloc (.cells #[] 30))) := (Below.refl _ _).alloc (Nat.le_refl _) _
  have hr := hide (h.later ((Later.refl w).alloc (.cells #[] 30)))
  have H1 := hide h1
  obtain ⟨hl0, _, a, cap, rfl, _, h0⟩ := h
  cases a with
  | none =>
    obtain rfl : n = 0 := by
      rcases h0 with h0 | ⟨b, off, e, _⟩
      · exact h0
      · cases e
    have hx : xs = [] := List.eq_nil_of_length_eq_zero (by rw [hl0])
    rw [hx]
    clear hown hb hr h0 hx hl0 h1 H1
    have hq := slice_is_nil Try.underlying28 none 0 cap w
    go_enter Try.func44, Try.ntmps44
    go_wp2
    go_ret
    exact ⟨_, rfl, Later.refl w, World.ownsRow_nil w _ _ _, fun _ _ _ => rfl⟩
  | some ad =>
    clear h0 hl0 h1
    have hq := slice_is_nil Try.underlying28 (some ad) n cap w
    go_enter Try.func44, Try.ntmps44
    go_wp2_with (at_builtin; refine wpList_append_rw Try.elem_sense Try.underlying28 rfl (by decide) rfl (.tmp 5) (.tmp 6) rfl w.heap.size _ 0 [] rfl hown.out _ n xs rfl hr.out H1.out ?c1 ?c2 ?c3 w hb.out ?_)
    case c1 => omega
    case c2 => unfold maxLen; omega
    case c3 => simp
    intro v' w' ho hbl _
    go_wp2
    go_ret
    exact ⟨_, rfl, hbl, by simpa using ho, fun _ _ e => by cases e⟩
set_option maxHeartbeats 1000000 in
theorem clone1_c {v : Value} {n : Nat} {xs : List Value} (w : World) (h : Rw 1 w v n xs) (h1 : ∀ q ∈ xs, q.oneCell' = true) (hn : n ≤ 1000000) :
    Calls Try.prog 45 #[v] w fun e w' => ∃ v', e = .returned v' ∧ Later w w' ∧ w'.ownsRow w.heap.size 5 1 v' n xs ∧ ∀ k c, v = .slice none k c → v' = .slice none 0 0 := by
  have hown : Hid ((w.alloc (.cells #[] 5)).ownsRow w.heap.size 5 1 (.slice (some ⟨w.heap.size, 0, none⟩) 0 0) 0 []) := World.ownsRow_lit w #[] 0 (Nat.le_refl _) (by simp [maxLen]) rfl
  have hb : Hid (Below w.heap.size w (w.alloc (.cells #[] 5))) := (Below.refl _ _).alloc (Nat.le_refl _) _
  have hr := hide (h.later ((Later.refl w).alloc (.cells #[] 5)))
  have H1 := hide h1
  obtain ⟨hl0, _, a, cap, rfl, _, h0⟩ := h
  cases a with
  | none =>
    obtain rfl : n = 0 := by
      rcases h0 with h0 | ⟨b, off, e, _⟩
      · exact h0
      · cases e
    have hx : xs = [] := List.eq_nil_of_length_eq_zero (by rw [hl0])
    rw [hx]
    clear hown hb hr h0 hx hl0 h1 H1
    have hq := slice_is_nil Try.underlying36 none 0 cap w
    go_enter Try.func45, Try.ntmps45
    go_wp2
    go_ret
    exact ⟨_, rfl, Later.refl w, World.ownsRow_nil w _ _ _, fun _ _ _ => rfl⟩
  | some ad =>
    clear h0 hl0 h1
    have hq := slice_is_nil Try.underlying36 (some ad) n cap w
    go_enter Try.func45, Try.ntmps45
    go_wp2_with (at_builtin; refine wpList_append_rw Try.elem_u8 Try.underlying36 rfl (by decide) rfl (.tmp 5) (.tmp 6) rfl w.heap.size _ 0 [] rfl hown.out _ n xs rfl hr.out H1.out ?c1 ?c2 ?c3 w hb.out ?_)
    case c1 => omega
    case c2 => unfold maxLen; omega
    case c3 => simp
    intro v' w' ho hbl _
    go_wp2
    go_ret
    exact ⟨_, rfl, hbl, by simpa using ho, fun _ _ e => by cases e⟩
/-- a worker's cells -/
abbrev wc (ab : Option Addr) (n cb : Nat) (aD : Option Addr) (k cD : Nat) (p r l cc : Bool) (am : Option Addr) (m cm : Nat) (s : Sns) (c : Cmd) (len took : Int) (ar : Option Addr) (kr cr : Nat) (S : Sns) : List Value :=
  [.slice ab n cb, .slice aD k cD, .bool p, .bool r, .bool l, .bool cc, .slice am m cm, .int .i64 s.1, .int .i64 s.2.1, .int .i64 s.2.2,
   .int .i64 c.1, .int .u64 (c.2.1 : Int), .int .i64 c.2.2.1, .int .i64 c.2.2.2.1, .int .i64 c.2.2.2.2, .int .i64 len, .int .i64 took, .slice ar kr cr, .int .i64 S.1, .int .i64 S.2.1, .int .i64 S.2.2]
theorem wc_one (ab : Option Addr) (n cb : Nat) (aD : Option Addr) (k cD : Nat) (p r l cc : Bool) (am : Option Addr) (m cm : Nat) (s : Sns) (c : Cmd) (len took : Int) (ar : Option Addr) (kr cr : Nat) (S : Sns) : ∀ u ∈ wc ab n cb aD k cD p r l cc am m cm s c len took ar kr cr S, u.oneCell' = true := by
  intro x hx
  simp only [List.mem_cons, List.not_mem_nil, or_false] at hx
  rcases hx with rfl | rfl | rfl | rfl | rfl | rfl | rfl | rfl | rfl | rfl | rfl | rfl | rfl | rfl | rfl | rfl | rfl | rfl | rfl | rfl | rfl <;> rfl
theorem wc_nob (ab : Option Addr) (n cb : Nat) (aD : Option Addr) (k cD : Nat) (p r l cc : Bool) (am : Option Addr) (m cm : Nat) (s : Sns) (c : Cmd) (len took : Int) (ar : Option Addr) (kr cr : Nat) (S : Sns) : NoB (wc ab n cb aD k cD p r l cc am m cm s c len took ar kr cr S) := by intro z h; simp at h
theorem Try.info_worker : (Try.prog.info? 65).map (·.size) = some 21 := by kernel_rfl
theorem load_worker {w : World} {R : Nat} {cs : List Value} (h : Box w R 65 cs) (hl : cs.length = 21) : (loadVar 65 ⟨R, 0, none⟩).run Try.prog w = .ok (.agg cs.toArray) w :=
  run_loadVar_mid _ _ _ _ cs _ h.range Try.underlying65 rfl (by rw [Try.info_worker, hl])
theorem Try.info1_blocks10 : (Try.prog.info? 22).map (·.size) = some 1 := by kernel_rfl
theorem Try.info1_dirty10 : (Try.prog.info? 23).map (·.size) = some 1 := by kernel_rfl
theorem Try.info1_sns10 : (Try.prog.info? 28).map (·.size) = some 1 := by kernel_rfl
theorem Try.info1_bytes10 : (Try.prog.info? 36).map (·.size) = some 1 := by kernel_rfl
theorem owns_setBox10 {W : World} {B n sz : Nat} {e : TypeId} {v : Value} {xs : List Value} (h : W.ownsRow B e sz v n xs) {g : Nat} {t : TypeId} {cs : List Value} (hB : Box W g t cs) (ht : t ≠ e) (vs : List Value) (o : Nat) : (W.setCells g o vs).ownsRow B e sz v n xs :=
  owns_kept h fun k hk => heap_setCells_other W g k (fun e' => box_ne_own hB h ht k hk e'.symm) _ _
/-- what a worker has: rows of its own -/
def OwnW (B : Nat) (ab : Option Addr) (n cb : Nat) (aD : Option Addr) (k cD : Nat) (am : Option Addr) (m cm : Nat) (ar : Option Addr) (kr cr : Nat) (F : List UInt8) (D : List Drt) (M : List Sns) (R : List UInt8) (W : World) : Prop :=
  W.ownsRow B 58 64 (.slice ab n cb) n (bv F) ∧ W.ownsRow B 79 65 (.slice aD k cD) k (dv D) ∧ W.ownsRow B 30 3 (.slice am m cm) m (sv M) ∧ W.ownsRow B 5 1 (.slice ar kr cr) kr (bv R)
theorem slice_n10 {a a' : Option Addr} {n n' c c' : Nat} (h : Value.slice a n c = .slice a' n' c') : a = a' ∧ n = n' ∧ c = c' := by simpa using h
set_option maxRecDepth 20000 in
set_option maxHeartbeats 4000000 in
theorem nworker_c {ab : Option Addr} {n cb : Nat} {aD : Option Addr} {k cD : Nat} {F : List UInt8} {D : List Drt} {p r l cc : Bool} {am : Option Addr} {m cm : Nat} {s : Sns} {M : List Sns} {c : Cmd} {len took : Int} {ar : Option Addr} {kr cr : Nat} {R : List UInt8} {S : Sns} (w : World)
    (hm : Med w (.agg #[.slice ab n cb, .slice aD k cD]) n F D) (hA : Sl w (.slice am m cm) M) (hR : Bs w (.slice ar kr cr) R) (hn : n ≤ 100) (hD : D.length ≤ 100) (hm1 : m ≤ 100) (hk : R.length ≤ 100000) :
    Calls Try.prog 28 #[uval ab n cb aD k cD p r l cc am m cm s, jval c len took ar kr cr S] w fun e w' => ∃ ab' cb' aD' cD' am' cm' ar' cr', e = .returned (.agg (wc ab' n cb' aD' k cD' p r l cc am' m cm' s c len took ar' kr cr' S).toArray) ∧ Later w w' ∧ OwnW w.heap.size ab' n cb' aD' k cD' am' m cm' ar' kr cr' F D M R w' ∧ (am = none → am' = none ∧ cm' = 0) := by
  have HR := hide hR
  have HKr : Hid (R.length = kr) := hR.len'
  obtain ⟨vb, vd, e, hb, hd, ho⟩ := hm
  simp at e
  obtain ⟨rfl, rfl⟩ := e
  obtain rfl : k = D.length := by
    obtain ⟨a', c', e'⟩ := hd.shape
    simp at e'
    exact e'.2.1
  have HB := hide hb
  have HD := hide hd
  obtain rfl : m = M.length := by
    obtain ⟨a', c', e'⟩ := hA.1.shape
    simp at e'
    exact e'.2.1
  have HA := hide hA.1
  clear hb hd ho hA hR
  generalize D.length = k at *
  generalize M.length = m at *
  have BU := hide (((Box.new w 32 (uc ab n cb aD k cD p r l cc am m cm s).toArray).alloc (.cells (jc c len took ar kr cr S).toArray 38)).alloc (.cells (wc none 0 0 none 0 0 false false false false none 0 0 (0, 0, 0) (0, 0, 0, 0, 0) 0 0 none 0 0 (0, 0, 0)).toArray 65))
  have BJ : Hid (Box _ (w.heap.size + 1) 38 (jc c len took ar kr cr S)) := (Box.new' (w.alloc (.cells (uc ab n cb aD k cD p r l cc am m cm s).toArray 32)) 38 (jc c len took ar kr cr S).toArray _ rfl _ (by simp)).alloc (.cells (wc none 0 0 none 0 0 false false false false none 0 0 (0, 0, 0) (0, 0, 0, 0, 0) 0 0 none 0 0 (0, 0, 0)).toArray 65)
  have BR : Hid (Box _ (w.heap.size + 1 + 1) 65 (wc none 0 0 none 0 0 false false false false none 0 0 (0, 0, 0) (0, 0, 0, 0, 0) 0 0 none 0 0 (0, 0, 0))) := Box.new' ((w.alloc (.cells (uc ab n cb aD k cD p r l cc am m cm s).toArray 32)).alloc (.cells (jc c len took ar kr cr S).toArray 38)) 65 (wc none 0 0 none 0 0 false false false false none 0 0 (0, 0, 0) (0, 0, 0, 0, 0) 0 0 none 0 0 (0, 0, 0)).toArray _ rfl _ (by simp)
  have LL := hide ((((Later.refl w).alloc (.cells (uc ab n cb aD k cD p r l cc am m cm s).toArray 32)).alloc (.cells (jc c len took ar kr cr S).toArray 38)).alloc (.cells (wc none 0 0 none 0 0 false false false false none 0 0 (0, 0, 0) (0, 0, 0, 0, 0) 0 0 none 0 0 (0, 0, 0)).toArray 65))
  have x0 := BU.out.cell 0
  go_enter Try.func28, Try.ntmps28
  go_wp2_with fail
  generalize ((w.alloc (.cells (uc ab n cb aD k cD p r l cc am m cm s).toArray 32)).alloc (.cells (jc c len took ar kr cr S).toArray 38)).alloc (.cells (wc none 0 0 none 0 0 false false false false none 0 0 (0, 0, 0) (0, 0, 0, 0, 0) 0 0 none 0 0 (0, 0, 0)).toArray 65) = w1 at *
  obtain ⟨gu, hgu⟩ : ∃ gu, gu = w.heap.size := ⟨_, rfl⟩
  obtain ⟨gj, hgj⟩ : ∃ gj, gj = w.heap.size + 1 := ⟨_, rfl⟩
  obtain ⟨gr, hgr⟩ : ∃ gr, gr = w.heap.size + 1 + 1 := ⟨_, rfl⟩
  rw [← hgr] at BR ⊢
  rw [← hgj] at BJ ⊢
  rw [← hgu] at BU ⊢
  have HG : Hid (w.heap.size ≤ gu ∧ w.heap.size ≤ gj ∧ w.heap.size ≤ gr ∧ gj ≠ gu ∧ gr ≠ gu ∧ gr ≠ gj) := by rw [Hid]; omega
  clear hgu hgj hgr x0
  refine (clone64_c w1 (HB.out.later LL.out) (by omega)).mono ?_
  rintro e w2 ⟨v2, rfl, hl, ho⟩
  obtain ⟨ab', cb', rfl⟩ := (Rw.of_owns ho).shape
  have O1 := hide (owns_rebase ho LL.out.size)
  replace LL := hide (LL.out.trans hl)
  replace BU := hide (BU.out.later hl)
  replace BJ := hide (BJ.out.later hl)
  replace BR := hide (BR.out.later hl)
  clear hl ho
  go_wp2_with (refine wpList_storeV rfl 22 (.tmp 12) (.tmp 9) rfl gu 0 rfl ab' n cb' rfl Try.info1_blocks10 _ _ BU.out (by simp) ?_)
  intro w3 h3
  have BUn : Hid (Box w3 gu 32 (uc ab' n cb' aD k cD p r l cc am m cm s)) := by rw [h3.out]; exact BU.out.setCells [.slice ab' n cb'] 0 (by simp)
  replace BJ : Hid (Box _ gj 38 (jc c len took ar kr cr S)) := hide (by have h := BJ.out.apart gu HG.out.2.2.2.1 [.slice ab' n cb'] 0; rw [← h3.out] at h; exact h)
  replace BR : Hid (Box _ gr 65 _) := hide (by have h := BR.out.apart gu HG.out.2.2.2.2.1 [.slice ab' n cb'] 0; rw [← h3.out] at h; exact h)
  replace LL : Hid (Later w _) := hide (by have h := LL.out.setCells HG.out.1 [.slice ab' n cb'] 0; rw [← h3.out] at h; exact h)
  replace O1 : Hid (World.ownsRow w3 _ _ _ _ _ _) := hide (by rw [h3.out]; exact owns_setBox10 O1.out BU.out (by decide) _ _)
  replace BU := BUn
  clear BUn h3
  have x1 := BU.out.cell 1
  go_wp2_with fail
  refine (clone65_c w3 (HD.out.later LL.out) (by omega)).mono ?_
  rintro e w4 ⟨v4, rfl, hl, ho⟩
  obtain ⟨aD', cD', rfl⟩ := (Rw.of_owns ho).shape
  have O2 := hide (owns_rebase ho LL.out.size)
  replace LL := hide (LL.out.trans hl)
  replace BU := hide (BU.out.later hl)
  replace BJ := hide (BJ.out.later hl)
  replace BR := hide (BR.out.later hl)
  replace O1 := hide (owns_later O1.out hl)
  clear hl ho x1
  go_wp2_with (refine wpList_storeV rfl 23 (.tmp 20) (.tmp 17) rfl gu 1 rfl aD' k cD' rfl Try.info1_dirty10 _ _ BU.out (by simp) ?_)
  intro w5 h5
  have BUn : Hid (Box w5 gu 32 (uc ab' n cb' aD' k cD' p r l cc am m cm s)) := by rw [h5.out]; exact BU.out.setCells [.slice aD' k cD'] 1 (by simp)
  replace BJ : Hid (Box _ gj 38 (jc c len took ar kr cr S)) := hide (by have h := BJ.out.apart gu HG.out.2.2.2.1 [.slice aD' k cD'] 1; rw [← h5.out] at h; exact h)
  replace BR : Hid (Box _ gr 65 _) := hide (by have h := BR.out.apart gu HG.out.2.2.2.2.1 [.slice aD' k cD'] 1; rw [← h5.out] at h; exact h)
  replace LL : Hid (Later w _) := hide (by have h := LL.out.setCells HG.out.1 [.slice aD' k cD'] 1; rw [← h5.out] at h; exact h)
  replace O1 : Hid (World.ownsRow w5 _ _ _ _ _ _) := hide (by rw [h5.out]; exact owns_setBox10 O1.out BU.out (by decide) _ _)
  replace O2 : Hid (World.ownsRow w5 _ _ _ _ _ _) := hide (by rw [h5.out]; exact owns_setBox10 O2.out BU.out (by decide) _ _)
  replace BU := BUn
  clear BUn h5
  have x6 := BU.out.cell 6
  go_wp2_with fail
  refine (clone3_c w5 (HA.out.later LL.out) (sv_one M) (by omega)).mono ?_
  rintro e w6 ⟨v6, rfl, hl, ho, hnone⟩
  obtain ⟨am', cm', rfl⟩ := (Rw.of_owns ho).shape
  have HN : Hid (am = none → am' = none ∧ cm' = 0) := fun e => by
    subst e
    have := slice_n10 (hnone m cm rfl)
    exact ⟨this.1, this.2.2⟩
  have O3 := hide (owns_rebase ho LL.out.size)
  replace LL := hide (LL.out.trans hl)
  replace BU := hide (BU.out.later hl)
  replace BJ := hide (BJ.out.later hl)
  replace BR := hide (BR.out.later hl)
  replace O1 := hide (owns_later O1.out hl)
  replace O2 := hide (owns_later O2.out hl)
  clear hl ho x6 hnone
  go_wp2_with (refine wpList_storeV rfl 28 (.tmp 24) (.tmp 23) rfl gu 6 rfl am' m cm' rfl Try.info1_sns10 _ _ BU.out (by simp) ?_)
  intro w7 h7
  have BUn : Hid (Box w7 gu 32 (uc ab' n cb' aD' k cD' p r l cc am' m cm' s)) := by rw [h7.out]; exact BU.out.setCells [.slice am' m cm'] 6 (by simp)
  replace BJ : Hid (Box _ gj 38 (jc c len took ar kr cr S)) := hide (by have h := BJ.out.apart gu HG.out.2.2.2.1 [.slice am' m cm'] 6; rw [← h7.out] at h; exact h)
  replace BR : Hid (Box _ gr 65 _) := hide (by have h := BR.out.apart gu HG.out.2.2.2.2.1 [.slice am' m cm'] 6; rw [← h7.out] at h; exact h)
  replace LL : Hid (Later w _) := hide (by have h := LL.out.setCells HG.out.1 [.slice am' m cm'] 6; rw [← h7.out] at h; exact h)
  replace O1 : Hid (World.ownsRow w7 _ _ _ _ _ _) := hide (by rw [h7.out]; exact owns_setBox10 O1.out BU.out (by decide) _ _)
  replace O2 : Hid (World.ownsRow w7 _ _ _ _ _ _) := hide (by rw [h7.out]; exact owns_setBox10 O2.out BU.out (by decide) _ _)
  replace O3 : Hid (World.ownsRow w7 _ _ _ _ _ _) := hide (by rw [h7.out]; exact owns_setBox10 O3.out BU.out (by decide) _ _)
  replace BU := BUn
  clear BUn h7
  have y7 := BJ.out.cell 7
  go_wp2_with fail
  have hrk : Rw 1 w7 (.slice ar kr cr) kr (bv R) := by have := (HR.out.later LL.out).rw; rwa [HKr.out] at this
  refine (clone1_c w7 hrk (bv_one R) (by have := HKr.out; omega)).mono ?_
  rintro e w8 ⟨v8, rfl, hl, ho, hnone⟩
  obtain ⟨ar', cr', rfl⟩ := (Rw.of_owns ho).shape
  have O4 := hide (owns_rebase ho LL.out.size)
  replace LL := hide (LL.out.trans hl)
  replace BU := hide (BU.out.later hl)
  replace BJ := hide (BJ.out.later hl)
  replace BR := hide (BR.out.later hl)
  replace O1 := hide (owns_later O1.out hl)
  replace O2 := hide (owns_later O2.out hl)
  replace O3 := hide (owns_later O3.out hl)
  clear hl ho y7 hnone hrk
  go_wp2_with (refine wpList_storeV rfl 36 (.tmp 28) (.tmp 27) rfl gj 7 rfl ar' kr cr' rfl Try.info1_bytes10 _ _ BJ.out (by simp) ?_)
  intro w9 h9
  have BJn : Hid (Box w9 gj 38 (jc c len took ar' kr cr' S)) := by rw [h9.out]; exact BJ.out.setCells [.slice ar' kr cr'] 7 (by simp)
  replace BU : Hid (Box w9 gu 32 (uc ab' n cb' aD' k cD' p r l cc am' m cm' s)) := by rw [h9.out]; exact BU.out.apart gj (by have := HG.out; omega) _ _
  have BRn := BR.out.apart gj (by have := HG.out; omega) [.slice ar' kr cr'] 7
  rw [← h9.out] at BRn
  replace BR := hide BRn
  clear BRn
  replace LL : Hid (Later w w9) := by rw [h9.out]; exact LL.out.setCells HG.out.2.1 _ _
  replace O1 : Hid (World.ownsRow w9 _ _ _ _ _ _) := hide (by rw [h9.out]; exact owns_setBox10 O1.out BJ.out (by decide) _ _)
  replace O2 : Hid (World.ownsRow w9 _ _ _ _ _ _) := hide (by rw [h9.out]; exact owns_setBox10 O2.out BJ.out (by decide) _ _)
  replace O3 : Hid (World.ownsRow w9 _ _ _ _ _ _) := hide (by rw [h9.out]; exact owns_setBox10 O3.out BJ.out (by decide) _ _)
  replace O4 : Hid (World.ownsRow w9 _ _ _ _ _ _) := hide (by rw [h9.out]; exact owns_setBox10 O4.out BJ.out (by decide) _ _)
  replace BJ := BJn
  clear BJn h9
  have x_0 := BU.out.cell 0
  have x_1 := BU.out.cell 1
  have x_2 := BU.out.cell 2
  have x_3 := BU.out.cell 3
  have x_4 := BU.out.cell 4
  have x_5 := BU.out.cell 5
  have x_6 := BU.out.cell 6
  have x_7 := BU.out.cell 7
  have x_8 := BU.out.cell 8
  have x_9 := BU.out.cell 9
  have y_0 := BJ.out.cell 0
  have y_1 := BJ.out.cell 1
  have y_2 := BJ.out.cell 2
  have y_3 := BJ.out.cell 3
  have y_4 := BJ.out.cell 4
  have y_5 := BJ.out.cell 5
  have y_6 := BJ.out.cell 6
  have y_7 := BJ.out.cell 7
  have y_8 := BJ.out.cell 8
  have y_9 := BJ.out.cell 9
  have y_10 := BJ.out.cell 10
  go_wp2_with (refine wpList_storeU rfl 65 (.tmp 4) (.tmp 31) rfl gr 0 rfl (wc ab' n cb' aD' k cD' p r l cc am' m cm' s c len took ar' kr cr' S) rfl Try.info_worker (wc_one _ _ _ _ _ _ _ _ _ _ _ _ _ _ _ _ _ _ _ _ _) _ _ BR.out (by simp) ?_)
  intro wz hz
  have BZ : Hid (Box wz gr 65 (wc ab' n cb' aD' k cD' p r l cc am' m cm' s c len took ar' kr cr' S)) := by rw [hz.out]; exact BR.out.all _ rfl
  have LZ : Hid (Later w wz) := by rw [hz.out]; exact LL.out.setCells HG.out.2.2.1 _ _
  have OO : Hid (OwnW w.heap.size ab' n cb' aD' k cD' am' m cm' ar' kr cr' F D M R wz) := by
    rw [hz.out]
    exact ⟨owns_setBox10 O1.out BR.out (by decide) _ _, owns_setBox10 O2.out BR.out (by decide) _ _, owns_setBox10 O3.out BR.out (by decide) _ _, owns_setBox10 O4.out BR.out (by decide) _ _⟩
  clear hz O1 O2 O3 O4
  clear x_0 x_1 x_2 x_3 x_4 x_5 x_6 x_7 x_8 x_9
  clear y_0 y_1 y_2 y_3 y_4 y_5 y_6 y_7 y_8 y_9 y_10
  go_wp2
  refine bodyPost_ret (results_cell1 rfl _ _ _ gr 0 rfl (.agg (wc ab' n cb' aD' k cD' p r l cc am' m cm' s c len took ar' kr cr' S).toArray) (load_worker BZ.out rfl)) rfl ⟨ab', cb', aD', cD', am', cm', ar', cr', rfl, LZ.out, OO.out, HN.out⟩
end Go.Proofs.Ytbcikndebaeahaa

namespace Go.Proofs.Ytbcikndebaeahaa
open Go.ChangeShapes Go.WideShapes Go.ChangeAt Go.RowKit
set_option linter.unusedVariables false
set_option maxRecDepth 4000
set_option linter.unusedSimpArgs false
/-! 'x, s := F(..)' in a region that draws its order: x no struct, s a sense in a variable of its own. -/
theorem lVal_assignAt {P : Program} {ops : Array Oper} {i : Nat} {R : Value → World → Prop} {a : Act} {w : World} {d : Option Tmp} {x : Operand} (h : OpAt ops i d (.assign x)) (v : Value) (hx : a.eval x = v) (hR : R v w) : lVal P ops i R a w := by
  obtain ⟨o, h1, h2, h3, h4⟩ := h
  exact lVal_of_run h1 h2 v w (run_assign _ h4 _ hx w) (Later.refl w) hR
set_option maxHeartbeats 1000000 in
theorem varsense_verify {ops : Array Oper} {Q : Exit → Act → World → Prop} {a : Act} {b : World} (f : FuncId) (hpl : Plain Try.prog f) (S : Sns) (K : Value → World → Prop) (hKl : ∀ x W W', Later W W' → K x W → K x W') (hKs : ∀ x W g s cs, Box W g 30 (sc s) → b.heap.size ≤ g → K x W → K x (W.setCells g 0 cs))
    (xs : List Operand) (ts : Array TypeId) (us : List Value) (hx : xs.map a.eval = us)
    (hc : OpAt ops 7 (some 15) (.call { callee := .value (.func f), args := xs.toArray, argTypes := ts })) (hm : OpAt ops 8 (some 7) (.move (.tmp 15))) (h0 : OpAt ops 9 (some 16) (.extract (.tmp 7) 0)) (h1 : OpAt ops 10 (some 17) (.extract (.tmp 7) 1))
    (ha : OpAt ops 11 (some 6) (.alloc 30)) (he : OpAt ops 12 (some 5) (.assign (.tmp 16))) (hs : OpAt ops 13 none (.store 30 (.tmp 6) (.tmp 17))) (hsz : 28 ≤ a.tmps.size)
    (hd : ([7, 8, 9, 10, 11, 12, 13].all fun i => ([7, 8, 9, 10, 11, 12, 13].filter fun k => dep .any ops i k) == (match i with | 8 => [7] | 9 => [7, 8] | 10 => [7, 8] | 12 => [7, 8, 9, 11] | 13 => [7, 8, 9, 10, 11, 12] | _ => [])) = true)
    (hcall : ∀ W, Later b W → Calls Try.prog f us.toArray W fun e w' => ∃ x, e = .returned (.tuple #[x, sval S]) ∧ Later W w' ∧ K x w')
    (hfin : ∀ x g W, Later b W → Box W g 30 (sc S) → K x W → b.heap.size ≤ g →
      Q .normal ((((((a.put (some 15) (.tuple #[x, sval S])).put (some 7) (.tuple #[x, sval S])).put (some 16) x).put (some 17) (sval S)).put (some 6) (.pointer (some ⟨g, 0, none⟩))).put (some 5) x) W) :
    ∃ L R', Bag2 Try.prog ops Q [13] [7, 8, 9, 10, 11, 12, 13] a b L R' := by
  refine bag_of2 [7, 8, 9, 10, 11, 12] (fun i => match i with | 8 => [7] | 9 => [7, 8] | 10 => [7, 8] | 12 => [7, 8, 9, 11] | 13 => [7, 8, 9, 10, 11, 12] | _ => [])
    (fun W => Later b W)
    (fun i vals W => match i with
      | 7 => ∃ x, vals 7 = .tuple #[x, sval S] ∧ K x W
      | 8 => vals 8 = vals 7
      | 9 => ∃ x, vals 7 = .tuple #[x, sval S] ∧ vals 9 = x
      | 10 => vals 10 = sval S
      | 11 => ∃ g s, vals 11 = .pointer (some ⟨g, 0, none⟩) ∧ Box W g 30 (sc s) ∧ b.heap.size ≤ g
      | 12 => ∃ x, vals 7 = .tuple #[x, sval S] ∧ vals 12 = x
      | 13 => ∃ g, vals 11 = .pointer (some ⟨g, 0, none⟩) ∧ Box W g 30 (sc S) ∧ b.heap.size ≤ g
      | _ => True) hd (by decide) (by decide) (Later.refl b) (fun w w' hl h => h.trans hl) ?c3 ?c4 ?c5 ?c6 ?c7 ?c8
  case c3 =>
    intro i hi vals W W' hl h
    simp only [List.mem_cons, List.not_mem_nil, or_false] at hi
    rcases hi with rfl | rfl | rfl | rfl | rfl | rfl | rfl
    · obtain ⟨x, q1, q2⟩ := h
      exact ⟨x, q1, hKl _ _ _ hl q2⟩
    · exact h
    · exact h
    · exact h
    · obtain ⟨g, s, q1, q2, q3⟩ := h
      exact ⟨g, s, q1, q2.later hl, q3⟩
    · exact h
    · obtain ⟨g, q1, q2, q3⟩ := h
      exact ⟨g, q1, q2.later hl, q3⟩
  case c4 =>
    intro i hi k hk hne hds vals v W h
    simp only [List.mem_cons, List.not_mem_nil, or_false] at hi hk
    rcases hi with rfl | rfl | rfl | rfl | rfl | rfl | rfl <;> rcases hk with rfl | rfl | rfl | rfl | rfl | rfl | rfl <;> first | (exact absurd rfl hne) | (simp at hds; done) | (simpa [upd] using h)
  case c5 =>
    refine ⟨?_, ?_, ?_, ?_, ?_, ?_, trivial⟩
    · intro vals W hL hdep
      refine lVal_callAt hc hpl us hx ((hcall W hL).mono ?_)
      rintro e w' ⟨x, rfl, q2, q3⟩
      exact ⟨_, rfl, q2, x, by simp [upd], q3⟩
    · intro vals W hL hdep
      refine lVal_moveAt hm (vals 7) ?_ (by simp [upd])
      simp only [putAll, List.foldl, hc.dst]
      exact eval_same (Nat.lt_of_lt_of_le (by decide) hsz)
    · intro vals W hL hdep
      obtain ⟨x, q1, q2⟩ := hdep 7 (by simp)
      have q3 : vals 8 = vals 7 := hdep 8 (by simp)
      refine lVal_extractAt h0 #[x, sval S] x ?_ rfl ⟨x, by simpa [upd] using q1, by simp [upd]⟩
      simp only [putAll, List.foldl, hc.dst, hm.dst]
      rw [eval_same (by simp only [put_size]; exact Nat.lt_of_lt_of_le (by decide) hsz), q3, q1]
    · intro vals W hL hdep
      obtain ⟨x, q1, q2⟩ := hdep 7 (by simp)
      have q3 : vals 8 = vals 7 := hdep 8 (by simp)
      refine lVal_extractAt h1 #[x, sval S] (sval S) ?_ rfl (by simp [upd])
      simp only [putAll, List.foldl, hc.dst, hm.dst]
      rw [eval_same (by simp only [put_size]; exact Nat.lt_of_lt_of_le (by decide) hsz), q3, q1]
    · intro vals W hL hdep
      exact lVal_allocAt ha _ _ Try.zero_sense ⟨W.heap.size, (0, 0, 0), by simp [upd], Box.new W _ _, hL.size⟩
    · intro vals W hL hdep
      obtain ⟨x, q1, q2⟩ := hdep 9 (by simp)
      refine lVal_assignAt he x ?_ ⟨x, by simpa [upd] using q1, by simp [upd]⟩
      simp only [putAll, List.foldl, hc.dst, hm.dst, h0.dst, ha.dst]
      rw [eval_put_ne (by decide), eval_same (by simp only [put_size]; exact Nat.lt_of_lt_of_le (by decide) hsz), q2]
  case c6 =>
    refine ⟨?_, trivial⟩
    intro vals W hL hdep
    obtain ⟨x, q1, q2⟩ := hdep 7 (by simp)
    have q3' := hdep 8 (by simp)
    have q4' := hdep 9 (by simp)
    have q5 : vals 10 = sval S := hdep 10 (by simp)
    obtain ⟨g, s, v1, v2, v3⟩ := hdep 11 (by simp)
    have q7' := hdep 12 (by simp)
    refine sVal_storeAt hs g (sc S) ?_ ?_ (v2.there 0 3 (by simp)) Try.info_sense (sc_one _) (fun u => ⟨hL.setCells v3 _ 0, ?_, ?_⟩)
    · simp only [putAll, List.foldl, hc.dst, hm.dst, h0.dst, h1.dst, ha.dst, he.dst]
      rw [eval_put_ne (by decide), eval_same (by simp only [put_size]; exact Nat.lt_of_lt_of_le (by decide) hsz), v1]
    · simp only [putAll, List.foldl, hc.dst, hm.dst, h0.dst, h1.dst, ha.dst, he.dst]
      rw [eval_put_ne (by decide), eval_put_ne (by decide), eval_same (by simp only [put_size]; exact Nat.lt_of_lt_of_le (by decide) hsz), q5]
    · exact ⟨g, by simpa [upd] using v1, v2.all _ rfl, v3⟩
    · intro k hk
      simp only [List.mem_cons, List.not_mem_nil, or_false] at hk
      rcases hk with rfl | rfl | rfl | rfl | rfl | rfl
      · exact ⟨x, q1, hKs _ _ _ _ _ v2 v3 q2⟩
      · exact q3'
      · exact q4'
      · exact q5
      · exact ⟨g, S, v1, v2.all _ rfl, v3⟩
      · exact q7'
  case c7 =>
    intro i hi hst k hk hne hds hds' vals W W' h
    simp only [List.mem_cons, List.not_mem_nil, or_false] at hst hk
    rcases hst with rfl <;> rcases hk with rfl | rfl | rfl | rfl | rfl | rfl | rfl <;> first | (exact absurd rfl hne) | (simp at hds; done) | (simp at hds'; done) | (exact h)
  case c8 =>
    intro vals W hL hall
    obtain ⟨x, u1, u2⟩ := hall 7 (by simp)
    have q3 : vals 8 = vals 7 := hall 8 (by simp)
    obtain ⟨x', u1', q4⟩ := hall 9 (by simp)
    have q5 : vals 10 = sval S := hall 10 (by simp)
    obtain ⟨x'', u1'', q7⟩ := hall 12 (by simp)
    obtain ⟨g, v1, v2, v3⟩ := hall 13 (by simp)
    obtain rfl : x = x' := by rw [u1] at u1'; simpa using u1'
    obtain rfl : x = x'' := by rw [u1] at u1''; simpa using u1''
    have := hfin x g W hL v2 u2 v3
    simp only [putAll, List.foldl, hc.dst, hm.dst, h0.dst, h1.dst, ha.dst, he.dst, hs.dst, put_none, q3, q4, q5, q7, u1, v1]
    exact this
set_option maxHeartbeats 1000000 in
theorem varsense_modes {ops : Array Oper} {Q : Exit → Act → World → Prop} {a : Act} {b : World} (f : FuncId) (hpl : Plain Try.prog f) (S : Sns) (K : Value → World → Prop) (hKl : ∀ x W W', Later W W' → K x W → K x W') (hKs : ∀ x W g s cs, Box W g 30 (sc s) → b.heap.size ≤ g → K x W → K x (W.setCells g 0 cs))
    (xs : List Operand) (ts : Array TypeId) (us : List Value) (hx : xs.map a.eval = us)
    (hc : OpAt ops 17 (some 23) (.call { callee := .value (.func f), args := xs.toArray, argTypes := ts })) (hm : OpAt ops 18 (some 5) (.move (.tmp 23))) (h0 : OpAt ops 19 (some 24) (.extract (.tmp 5) 0)) (h1 : OpAt ops 20 (some 25) (.extract (.tmp 5) 1))
    (ha : OpAt ops 21 (some 4) (.alloc 30)) (he : OpAt ops 22 (some 3) (.assign (.tmp 24))) (hs : OpAt ops 23 none (.store 30 (.tmp 4) (.tmp 25))) (hsz : 34 ≤ a.tmps.size)
    (hd : ([17, 18, 19, 20, 21, 22, 23].all fun i => ([17, 18, 19, 20, 21, 22, 23].filter fun k => dep .any ops i k) == (match i with | 18 => [17] | 19 => [17, 18] | 20 => [17, 18] | 22 => [17, 18, 19, 21] | 23 => [17, 18, 19, 20, 21, 22] | _ => [])) = true)
    (hcall : ∀ W, Later b W → Calls Try.prog f us.toArray W fun e w' => ∃ x, e = .returned (.tuple #[x, sval S]) ∧ Later W w' ∧ K x w')
    (hfin : ∀ x g W, Later b W → Box W g 30 (sc S) → K x W → b.heap.size ≤ g →
      Q .normal ((((((a.put (some 23) (.tuple #[x, sval S])).put (some 5) (.tuple #[x, sval S])).put (some 24) x).put (some 25) (sval S)).put (some 4) (.pointer (some ⟨g, 0, none⟩))).put (some 3) x) W) :
    ∃ L R', Bag2 Try.prog ops Q [23] [17, 18, 19, 20, 21, 22, 23] a b L R' := by
  refine bag_of2 [17, 18, 19, 20, 21, 22] (fun i => match i with | 18 => [17] | 19 => [17, 18] | 20 => [17, 18] | 22 => [17, 18, 19, 21] | 23 => [17, 18, 19, 20, 21, 22] | _ => [])
    (fun W => Later b W)
    (fun i vals W => match i with
      | 17 => ∃ x, vals 17 = .tuple #[x, sval S] ∧ K x W
      | 18 => vals 18 = vals 17
      | 19 => ∃ x, vals 17 = .tuple #[x, sval S] ∧ vals 19 = x
      | 20 => vals 20 = sval S
      | 21 => ∃ g s, vals 21 = .pointer (some ⟨g, 0, none⟩) ∧ Box W g 30 (sc s) ∧ b.heap.size ≤ g
      | 22 => ∃ x, vals 17 = .tuple #[x, sval S] ∧ vals 22 = x
      | 23 => ∃ g, vals 21 = .pointer (some ⟨g, 0, none⟩) ∧ Box W g 30 (sc S) ∧ b.heap.size ≤ g
      | _ => True) hd (by decide) (by decide) (Later.refl b) (fun w w' hl h => h.trans hl) ?c3 ?c4 ?c5 ?c6 ?c7 ?c8
  case c3 =>
    intro i hi vals W W' hl h
    simp only [List.mem_cons, List.not_mem_nil, or_false] at hi
    rcases hi with rfl | rfl | rfl | rfl | rfl | rfl | rfl
    · obtain ⟨x, q1, q2⟩ := h
      exact ⟨x, q1, hKl _ _ _ hl q2⟩
    · exact h
    · exact h
    · exact h
    · obtain ⟨g, s, q1, q2, q3⟩ := h
      exact ⟨g, s, q1, q2.later hl, q3⟩
    · exact h
    · obtain ⟨g, q1, q2, q3⟩ := h
      exact ⟨g, q1, q2.later hl, q3⟩
  case c4 =>
    intro i hi k hk hne hds vals v W h
    simp only [List.mem_cons, List.not_mem_nil, or_false] at hi hk
    rcases hi with rfl | rfl | rfl | rfl | rfl | rfl | rfl <;> rcases hk with rfl | rfl | rfl | rfl | rfl | rfl | rfl <;> first | (exact absurd rfl hne) | (simp at hds; done) | (simpa [upd] using h)
  case c5 =>
    refine ⟨?_, ?_, ?_, ?_, ?_, ?_, trivial⟩
    · intro vals W hL hdep
      refine lVal_callAt hc hpl us hx ((hcall W hL).mono ?_)
      rintro e w' ⟨x, rfl, q2, q3⟩
      exact ⟨_, rfl, q2, x, by simp [upd], q3⟩
    · intro vals W hL hdep
      refine lVal_moveAt hm (vals 17) ?_ (by simp [upd])
      simp only [putAll, List.foldl, hc.dst]
      exact eval_same (Nat.lt_of_lt_of_le (by decide) hsz)
    · intro vals W hL hdep
      obtain ⟨x, q1, q2⟩ := hdep 17 (by simp)
      have q3 : vals 18 = vals 17 := hdep 18 (by simp)
      refine lVal_extractAt h0 #[x, sval S] x ?_ rfl ⟨x, by simpa [upd] using q1, by simp [upd]⟩
      simp only [putAll, List.foldl, hc.dst, hm.dst]
      rw [eval_same (by simp only [put_size]; exact Nat.lt_of_lt_of_le (by decide) hsz), q3, q1]
    · intro vals W hL hdep
      obtain ⟨x, q1, q2⟩ := hdep 17 (by simp)
      have q3 : vals 18 = vals 17 := hdep 18 (by simp)
      refine lVal_extractAt h1 #[x, sval S] (sval S) ?_ rfl (by simp [upd])
      simp only [putAll, List.foldl, hc.dst, hm.dst]
      rw [eval_same (by simp only [put_size]; exact Nat.lt_of_lt_of_le (by decide) hsz), q3, q1]
    · intro vals W hL hdep
      exact lVal_allocAt ha _ _ Try.zero_sense ⟨W.heap.size, (0, 0, 0), by simp [upd], Box.new W _ _, hL.size⟩
    · intro vals W hL hdep
      obtain ⟨x, q1, q2⟩ := hdep 19 (by simp)
      refine lVal_assignAt he x ?_ ⟨x, by simpa [upd] using q1, by simp [upd]⟩
      simp only [putAll, List.foldl, hc.dst, hm.dst, h0.dst, ha.dst]
      rw [eval_put_ne (by decide), eval_same (by simp only [put_size]; exact Nat.lt_of_lt_of_le (by decide) hsz), q2]
  case c6 =>
    refine ⟨?_, trivial⟩
    intro vals W hL hdep
    obtain ⟨x, q1, q2⟩ := hdep 17 (by simp)
    have q3' := hdep 18 (by simp)
    have q4' := hdep 19 (by simp)
    have q5 : vals 20 = sval S := hdep 20 (by simp)
    obtain ⟨g, s, v1, v2, v3⟩ := hdep 21 (by simp)
    have q7' := hdep 22 (by simp)
    refine sVal_storeAt hs g (sc S) ?_ ?_ (v2.there 0 3 (by simp)) Try.info_sense (sc_one _) (fun u => ⟨hL.setCells v3 _ 0, ?_, ?_⟩)
    · simp only [putAll, List.foldl, hc.dst, hm.dst, h0.dst, h1.dst, ha.dst, he.dst]
      rw [eval_put_ne (by decide), eval_same (by simp only [put_size]; exact Nat.lt_of_lt_of_le (by decide) hsz), v1]
    · simp only [putAll, List.foldl, hc.dst, hm.dst, h0.dst, h1.dst, ha.dst, he.dst]
      rw [eval_put_ne (by decide), eval_put_ne (by decide), eval_same (by simp only [put_size]; exact Nat.lt_of_lt_of_le (by decide) hsz), q5]
    · exact ⟨g, by simpa [upd] using v1, v2.all _ rfl, v3⟩
    · intro k hk
      simp only [List.mem_cons, List.not_mem_nil, or_false] at hk
      rcases hk with rfl | rfl | rfl | rfl | rfl | rfl
      · exact ⟨x, q1, hKs _ _ _ _ _ v2 v3 q2⟩
      · exact q3'
      · exact q4'
      · exact q5
      · exact ⟨g, S, v1, v2.all _ rfl, v3⟩
      · exact q7'
  case c7 =>
    intro i hi hst k hk hne hds hds' vals W W' h
    simp only [List.mem_cons, List.not_mem_nil, or_false] at hst hk
    rcases hst with rfl <;> rcases hk with rfl | rfl | rfl | rfl | rfl | rfl | rfl <;> first | (exact absurd rfl hne) | (simp at hds; done) | (simp at hds'; done) | (exact h)
  case c8 =>
    intro vals W hL hall
    obtain ⟨x, u1, u2⟩ := hall 17 (by simp)
    have q3 : vals 18 = vals 17 := hall 18 (by simp)
    obtain ⟨x', u1', q4⟩ := hall 19 (by simp)
    have q5 : vals 20 = sval S := hall 20 (by simp)
    obtain ⟨x'', u1'', q7⟩ := hall 22 (by simp)
    obtain ⟨g, v1, v2, v3⟩ := hall 23 (by simp)
    obtain rfl : x = x' := by rw [u1] at u1'; simpa using u1'
    obtain rfl : x = x'' := by rw [u1] at u1''; simpa using u1''
    have := hfin x g W hL v2 u2 v3
    simp only [putAll, List.foldl, hc.dst, hm.dst, h0.dst, h1.dst, ha.dst, he.dst, hs.dst, put_none, q3, q4, q5, q7, u1, v1]
    exact this
end Go.Proofs.Ytbcikndebaeahaa

namespace Go.Proofs.Ytbcikndebaeahaa
open Go.ChangeShapes Go.WideShapes Go.ChangeAt Go.RowKit
set_option linter.unusedVariables false
set_option maxRecDepth 4000
set_option linter.unusedSimpArgs false
/-! The landed slot: own. -/
/-- all that it holds lies in new memory -/
def Fresh (B : Nat) (v : Value) : Prop := ∀ g, g < B → OffT g v
set_option maxRecDepth 20000 in
set_option maxHeartbeats 1000000 in
theorem sown_c {v : Value} {n : Nat} {F : List UInt8} {D : List Drt} {p r l : Bool} (w : World) (h : Slt w v n F D p r l) (hn : n ≤ 100) (hD : D.length ≤ 100) :
    Calls Try.prog 63 #[v] w fun e w' => ∃ v', e = .returned v' ∧ Later w w' ∧ Slt w' v' n F D p r l ∧ Fresh w.heap.size v' := by
  obtain ⟨ab, cb, aD, k, cD, rfl, hm⟩ := h
  obtain ⟨vb, vd, e, hb, hd, hok⟩ := hm
  simp at e
  obtain ⟨rfl, rfl⟩ := e
  obtain rfl : k = D.length := by
    obtain ⟨a', c', e'⟩ := hd.shape
    simp at e'
    exact e'.2.1
  have HB := hide hb
  obtain ⟨k, hk⟩ : ∃ k, k = D.length := ⟨_, rfl⟩
  rw [← hk] at hd hD ⊢
  have HD := hide hd
  have HK := hide hk
  have HO := hide hok
  clear hb hd hok hk
  have BX : Hid (Box ((w.alloc (.cells #[.slice ab n cb, .slice aD k cD, .bool p, .bool r, .bool l] 27)).alloc (.cells #[.slice none 0 0, .slice none 0 0, .bool false, .bool false, .bool false] 27)) w.heap.size 27 (tc (.slice ab n cb) (.slice aD k cD) p r l)) := (Box.new w 27 #[.slice ab n cb, .slice aD k cD, .bool p, .bool r, .bool l]).alloc _
  have BR : Hid (Box ((w.alloc (.cells #[.slice ab n cb, .slice aD k cD, .bool p, .bool r, .bool l] 27)).alloc (.cells #[.slice none 0 0, .slice none 0 0, .bool false, .bool false, .bool false] 27)) (w.heap.size + 1) 27 (tc (.slice none 0 0) (.slice none 0 0) false false false)) := Box.new' _ _ _ _ rfl _ (by simp)
  have L := hide (((Later.refl w).alloc (.cells #[.slice ab n cb, .slice aD k cD, .bool p, .bool r, .bool l] 27)).alloc (.cells #[.slice none 0 0, .slice none 0 0, .bool false, .bool false, .bool false] 27))
  go_enter Try.func63, Try.ntmps63
  go_wp2_with fail
  generalize ((w.alloc (.cells #[.slice ab n cb, .slice aD k cD, .bool p, .bool r, .bool l] 27)).alloc (.cells #[.slice none 0 0, .slice none 0 0, .bool false, .bool false, .bool false] 27)) = w1 at *
  have hc := fun r => ((Later.refl w1).drew.trans (later_rg w1.drew r))
  have hc0 := fun r => (BX.out.later (hc r)).cell 0
  have hc1 := fun r => (BX.out.later (hc r)).cell 1
  refine wp_region_tree [0, 1, 2, 4, 5, 6] [3, 7] [8, 9, 10] (by kernel_rfl) (by kernel_rfl) (by kernel_rfl) (by kernel_rfl) ?_
  iterate 6 (refine wpT_mild rfl (fun K hK => ?_); go_simp; refine hK _ ?_; clear hK K)
  clear hc0 hc1 hc
  refine wpT_bag (fun i => match i with | 7 => [3] | _ => []) (fun i vals W => match i with
    | 3 => W.ownsRow w.heap.size 58 64 (vals 3) n (bv F)
    | 7 => W.ownsRow w.heap.size 79 65 (vals 7) k (dv D)
    | _ => True) (by kernel_rfl) ?b1 ?b2 ?b3 ?b4
  case b1 =>
    intro i hi vals W W' hl h
    simp only [List.mem_cons, List.not_mem_nil, or_false] at hi
    rcases hi with rfl | rfl
    · exact owns_later h hl
    · exact owns_later h hl
  case b2 =>
    intro i hi k hk hne hds vals v W h
    simp only [List.mem_cons, List.not_mem_nil, or_false] at hi hk
    rcases hi with rfl | rfl <;> rcases hk with rfl | rfl <;> first | (exact absurd rfl hne) | (simpa [upd] using h) | (simp at hds)
  case b3 =>
    intro i hi vals W hl hdep
    have L1W := (Later.refl w1).drew.trans hl
    have LW := hide (L.out.trans L1W)
    simp only [List.mem_cons, List.not_mem_nil, or_false] at hi
    rcases hi with rfl | rfl
    · refine lVal_step rfl (fun K hK => ?_)
      simp only [putAll, List.foldl]
      go_simp
      refine (clone64_c W (HB.out.later LW.out) (by omega)).mono ?_
      rintro e w3 ⟨v3, rfl, hl3, ho3⟩
      exact ⟨v3, rfl, hl3, hK _ _ (by simpa [upd] using owns_rebase ho3 LW.out.size)⟩
    · refine lVal_step rfl (fun K hK => ?_)
      simp only [putAll, List.foldl]
      go_simp
      refine (clone65_c W (HD.out.later LW.out) (by omega)).mono ?_
      rintro e w3 ⟨v3, rfl, hl3, ho3⟩
      exact ⟨v3, rfl, hl3, hK _ _ (by simpa [upd] using owns_rebase ho3 LW.out.size)⟩
  case b4 =>
    intro vals w7 hl hall
    have hw7 := (Later.refl w1).drew.trans hl
    have h3 : w7.ownsRow w.heap.size 58 64 (vals 3) n (bv F) := hall 3 (by simp)
    have h7 : w7.ownsRow w.heap.size 79 65 (vals 7) k (dv D) := hall 7 (by simp)
    generalize hv3 : vals 3 = v3 at *
    generalize hv7 : vals 7 = v7 at *
    have FR : Hid (Fresh w.heap.size (.agg #[v3, v7, .bool p, .bool r, .bool l])) := fun g hg => ⟨_, _, _, _, _, rfl, owns_off h3 hg, owns_off h7 hg⟩
    have M : Hid (Med w7 (.agg #[v3, v7]) n F D) := ⟨_, _, rfl, Rw.of_owns h3, by rw [← HK.out]; exact Rw.of_owns h7, HO.out⟩
    obtain ⟨a3, c3, rfl⟩ := (Rw.of_owns h3).shape
    obtain ⟨a6, c6, rfl⟩ := (Rw.of_owns h7).shape
    replace BX := hide (BX.out.later hw7)
    replace BR := hide (BR.out.later hw7)
    replace L := hide (L.out.later hw7)
    clear h3 h7 hall hl hw7
    refine wpL_cons rfl (fun K hK => ?_)
    simp only [putAll, List.foldl, dstOf, hv3, hv7]
    go_simp
    refine hK _ _ ?_
    clear hK K
    refine wpL_cons rfl (fun K hK => ?_)
    go_simp
    refine hK _ _ ?_
    clear hK K
    refine wpL_store rfl (by kernel_rfl) 25 (.tmp 12) (.tmp 11) rfl w.heap.size 0 [.slice a3 n c3, .slice a6 k c6] rfl rfl (BX.out.there 0 2 (by simp)) (zero_of_info Try.zero_medium).2 (by simp [Value.oneCell']) (wpL_nil ?_)
    obtain ⟨w8, hw8⟩ : ∃ w8, Hid (w8 = w7.setCells w.heap.size 0 [.slice a3 n c3, .slice a6 k c6]) := ⟨_, rfl⟩
    rw [← hw8.out]
    have T := hide (tri_set (Nat.le_refl _) (by omega) BX.out (tc_noints _ _ _ _ _ _ _ _ _) BR.out L.out M.out [.slice a3 n c3, .slice a6 k c6] 0 (by simp))
    rw [← hw8.out] at T
    clear BX BR L M hw8
    have BX : Hid (Box w8 w.heap.size 27 (tc (.slice a3 n c3) (.slice a6 k c6) p r l)) := T.out.1
    have BR := hide T.out.2.1
    have L := hide T.out.2.2.1
    have M := hide T.out.2.2.2
    clear T
    have HE := hide (slot_set (p := p) (r := r) (l := l) (by omega) BR.out (tc_noints _ _ _ _ _ _ _ _ _) rfl L.out M.out)
    have d0 := BX.out.cell 0
    have d1 := BX.out.cell 1
    have d2 := BX.out.cell 2
    have d3 := BX.out.cell 3
    have d4 := BX.out.cell 4
    go_wp2_with (refine wpList_storeT rfl 27 (.tmp 2) (.tmp 13) rfl (w.heap.size + 1) 0 rfl (tc (.slice a3 n c3) (.slice a6 k c6) p r l) rfl Try.info_slot (tc_one _ _ _ _ _ _ _ _ _) _ _ BR.out (by simp) ?_)
    intro wz hwz
    rw [← hwz.out] at HE
    clear BX BR L M d0 d1 d2 d3 d4 hwz
    go_wp2
    refine bodyPost_ret (results_cell1 rfl _ _ _ (w.heap.size + 1) 0 rfl (.agg #[.slice a3 n c3, .slice a6 k c6, .bool p, .bool r, .bool l]) (shut5 HE.out.1 rfl)) rfl ⟨_, rfl, HE.out.2.1, ?_, FR.out⟩
    exact Slt.mk' _ _ _ HE.out.2.2
end Go.Proofs.Ytbcikndebaeahaa

namespace Go.Proofs.Ytbcikndebaeahaa
open Go.ChangeShapes Go.WideShapes Go.ChangeAt Go.RowKit
set_option linter.unusedVariables false
set_option maxRecDepth 4000
set_option linter.unusedSimpArgs false
/-! The landed slot: with, Sync. -/
set_option maxRecDepth 20000 in
set_option maxHeartbeats 1000000 in
theorem swith_yes {v u : Value} {n m : Nat} {F G : List UInt8} {D E : List Drt} {p r l : Bool} (w : World) (h : Slt w v n F D p r l) (hu : Med w u m G E) :
    Calls Try.prog 65 #[v, u, .int .i64 0] w fun e w' => ∃ v', e = .returned v' ∧ Later w w' ∧ Slt w' v' m G E p r l ∧ ∀ g, OffM g u → OffT g v' := by
  obtain ⟨ab, cb, aD, k, cD, rfl, _⟩ := h
  have HU := hide hu
  obtain ⟨a3, c3, a6, k6, c6, rfl, _, _, _⟩ := hu.shape
  clear hu
  go_enter Try.func65, Try.ntmps65
  go_wp2
  refine bodyPost_ret (results_cell1 rfl _ _ _ (w.heap.size + 1 + 1) 0 rfl (.agg #[.slice a3 m c3, .slice a6 k6 c6, .bool p, .bool r, .bool l]) (shut5 (cs := tc (.slice a3 m c3) (.slice a6 k6 c6) p r l) (Box.new' _ _ _ _ rfl _ (by simp)) rfl)) rfl ⟨_, rfl, (((Later.refl w).alloc _).alloc _).alloc _, Slt.mk' _ _ _ (HU.out.later ((((Later.refl w).alloc _).alloc _).alloc _)), fun g ⟨a, b, e, h1, h2⟩ => ?_⟩
  simp at e
  obtain ⟨rfl, rfl⟩ := e
  exact ⟨_, _, _, _, _, rfl, h1, h2⟩
end Go.Proofs.Ytbcikndebaeahaa

namespace Go.Proofs.Ytbcikndebaeahaa
open Go.ChangeShapes Go.WideShapes Go.ChangeAt Go.RowKit
set_option linter.unusedVariables false
set_option maxRecDepth 4000
set_option linter.unusedSimpArgs false
/-! The landed slot: Insert, Switch, Power. -/
end Go.Proofs.Ytbcikndebaeahaa

namespace Go.Proofs.Ytbcikndebaeahaa
open Go.ChangeShapes Go.WideShapes Go.ChangeAt Go.RowKit
set_option linter.unusedVariables false
set_option maxRecDepth 4000
set_option linter.unusedSimpArgs false
/-! The landed slot: Switch, Power. -/
end Go.Proofs.Ytbcikndebaeahaa

namespace Go.Proofs.Ytbcikndebaeahaa
open Go.ChangeShapes Go.WideShapes Go.ChangeAt Go.RowKit
set_option linter.unusedVariables false
set_option maxRecDepth 4000
set_option linter.unusedSimpArgs false
theorem bwithin_w (c : Int) (at_ : Nat) (n : Int) (w : World) (hc1 : -9223372036854775808 ≤ c) (hc : c ≤ 9223372036854775807) (ha : at_ ≤ 18446744073709551615) (hn1 : -9223372036854775808 ≤ n) (hn : n ≤ 9223372036854775807) :
    Calls Try.prog 75 #[.int .i64 c, .int .u64 at_, .int .i64 n] w fun e w' => e = .returned (.bool (withinB c at_ n)) ∧ w' = w := by
  unfold withinB
  by_cases h1 : 0 ≤ n
  · have hd : decide (0 ≤ n) = true := by simpa using h1
    by_cases h2 : n ≤ c
    · have hd2 : decide (n ≤ c) = true := by simpa using h2
      go_enter Try.func75, Try.ntmps75
      go_wp2
      go_ret
      refine ⟨ret_bool ?_, rfl⟩
      simp [hd, hd2]
    · have hd2 : decide (n ≤ c) = false := by simpa using h2
      go_enter Try.func75, Try.ntmps75
      go_wp2
      go_ret
      refine ⟨ret_bool (by first | (simp; done) | (simp; omega)), rfl⟩
  · have hd : decide (0 ≤ n) = false := by simpa using h1
    go_enter Try.func75, Try.ntmps75
    go_wp2
    go_ret
    refine ⟨ret_bool (by first | (simp; done) | (simp; omega)), rfl⟩
theorem bwithin_c (c : Int) (at_ : Nat) (n : Int) (w : World) (hc1 : -9223372036854775808 ≤ c) (hc : c ≤ 9223372036854775807) (ha : at_ ≤ 18446744073709551615) (hn1 : -9223372036854775808 ≤ n) (hn : n ≤ 9223372036854775807) :
    Calls Try.prog 75 #[.int .i64 c, .int .u64 at_, .int .i64 n] w fun e w' => e = .returned (.bool (withinB c at_ n)) ∧ Later w w' :=
  (bwithin_w c at_ n w hc1 hc ha hn1 hn).mono fun e w' ⟨he, hw⟩ => ⟨he, by rw [hw]; exact Later.refl w⟩
end Go.Proofs.Ytbcikndebaeahaa
