import Derived.Test.YtfefnkeognccpaaL4I
namespace Go.Proofs.Ytfefnkeognccpaa
open Go.ChangeShapes Go.WideShapes Go.ChangeAt Go.RowKit
set_option linter.unusedVariables false
set_option linter.unusedSimpArgs false

def of5 : List Sns := [(6, 41, 0), (6, 41, 2), (6, 41, 3), (6, 41, 7), (6, 40, 0)]
theorem of5_cells : sv of5 = [.int .i64 6, .int .i64 41, .int .i64 0, .int .i64 6, .int .i64 41, .int .i64 2, .int .i64 6, .int .i64 41, .int .i64 3, .int .i64 6, .int .i64 41, .int .i64 7, .int .i64 6, .int .i64 40, .int .i64 0] := rfl
theorem of5_ok : ∀ s ∈ of5, OkS s := by
  intro s hs
  simp [of5] at hs
  rcases hs with rfl | rfl | rfl | rfl | rfl <;> exact ⟨by simp, by simp, by simp⟩
theorem of5_power (k : Nat) (hk : k < 5) : (of5[k]'hk == power) = decide (k = 0) := by
  match k, hk with
  | 0, _ => rfl
  | 1, _ => rfl
  | 2, _ => rfl
  | 3, _ => rfl
  | 4, _ => rfl
theorem addL_four {L : List Sns} {s : Sns} (h : L.length ≤ 4) : (addL L s).length ≤ 4 := by
  unfold addL
  split
  · exact h
  · split
    · simp
    · split
      · exact h
      · simp; omega
theorem SlO.off {w : World} {B : Nat} {v : Value} {L : List Sns} (h : SlO w B v L) {g : Nat} (hg : g < B) : v.ownBlock ≠ some g := fun e => by have := (h.lt g e).1; omega

theorem SlO.length {w : World} {B : Nat} {v : Value} {L : List Sns} (h : SlO w B v L) : ∃ a n c, v = .slice a n c ∧ n = L.length := by
  obtain ⟨a, c, rfl⟩ := (Rw.of_owns h).shape
  exact ⟨a, _, c, rfl, rfl⟩

set_option maxRecDepth 20000 in
set_option maxHeartbeats 4000000 in
theorem senseTurns_walk (hal : Alive4) (iA : IAddS) (iF : IFirstS) (iG : IGoodS) (i0 : IConS 19 (6, 41, 0)) (i1 : IConS 20 (6, 41, 2)) (i2 : IConS 21 (6, 41, 3)) (i3 : IConS 22 (6, 41, 7)) (i4 : IConS 23 (6, 40, 0))
    (v0 : Value) (w : World) (h0 : RBytes w v0) :
    Calls Try.prog 6 #[v0] w fun e w' => e = .returned (.bool true) ∧ Below w.heap.size w w' := by
  obtain ⟨l, hb⟩ := h0
  have HB := hide hb
  obtain ⟨hlm, al, cl, rfl, _, hd⟩ := hb
  unfold maxLen at hlm
  obtain ⟨n, hn⟩ : ∃ n, n = l.length := ⟨_, rfl⟩
  rw [← hn] at HB hlm ⊢
  have HN := hide hn
  clear hn hd
  go_enter Try.func6, Try.ntmps6
  go_wp2_with fail
  refine (hal _).mono ?_
  rintro e w1 ⟨rfl, hl⟩
  have L := hide hl
  clear hl
  by_cases h100 : 100 < n
  · go_wp2
    go_ret
    exact ⟨rfl, L.out⟩
  have hn100 : n ≤ 100 := by omega
  go_wp2_with fail
  refine (i0 _).mono ?_
  rintro e w2 ⟨rfl, hl⟩
  replace L := hide (L.out.later hl)
  clear hl
  go_wp2_with fail
  refine (i1 _).mono ?_
  rintro e w3 ⟨rfl, hl⟩
  replace L := hide (L.out.later hl)
  clear hl
  go_wp2_with fail
  refine (i2 _).mono ?_
  rintro e w4 ⟨rfl, hl⟩
  replace L := hide (L.out.later hl)
  clear hl
  go_wp2_with fail
  refine (i3 _).mono ?_
  rintro e w5 ⟨rfl, hl⟩
  replace L := hide (L.out.later hl)
  clear hl
  go_wp2_with fail
  refine (i4 _).mono ?_
  rintro e w6 ⟨rfl, hl⟩
  replace L := hide (L.out.later hl)
  clear hl
  go_wp2_with fail
  have BF := hide (Box.new' w6 41 #[.int .i64 6, .int .i64 41, .int .i64 0, .int .i64 6, .int .i64 41, .int .i64 2, .int .i64 6, .int .i64 41, .int .i64 3, .int .i64 6, .int .i64 41, .int .i64 7, .int .i64 6, .int .i64 40, .int .i64 0] (sv of5) rfl w6.heap.size rfl)
  have LF := hide (L.out.alloc (.cells #[.int .i64 6, .int .i64 41, .int .i64 0, .int .i64 6, .int .i64 41, .int .i64 2, .int .i64 6, .int .i64 41, .int .i64 3, .int .i64 6, .int .i64 41, .int .i64 7, .int .i64 6, .int .i64 40, .int .i64 0] 41))
  clear L
  generalize (w6.alloc (.cells #[.int .i64 6, .int .i64 41, .int .i64 0, .int .i64 6, .int .i64 41, .int .i64 2, .int .i64 6, .int .i64 41, .int .i64 3, .int .i64 6, .int .i64 41, .int .i64 7, .int .i64 6, .int .i64 40, .int .i64 0] 41)) = w7 at *
  generalize w6.heap.size = gF at *
  have hgF : gF < w7.heap.size := BF.out.lt
  obtain ⟨G, hG⟩ : ∃ G, G = w7.heap.size := ⟨_, rfl⟩
  have hG0 : gF < G := by omega
  have hG1 : w.heap.size ≤ G := by have := LF.out.size; omega
  have hGs : Hid (G ≤ w7.heap.size) := by unfold Hid; omega
  clear hG hgF
  go_loopw [4, 5, 6] (fun vl vo i wr => ∃ (q : Nat) (M : List Sns) (al' ao : Option Addr) (ml mo cl' co : Nat), q ≤ n ∧ i = .int .i64 q ∧ vl = .slice al' ml cl' ∧ vo = .slice ao mo co ∧ ml ≤ 4 ∧ mo ≤ 4 ∧ Hid (ml = M.length ∧ mo = M.length) ∧ Hid (∀ x ∈ M, OkS x) ∧ Hid (G ≤ wr.heap.size) ∧ Hid (Later w wr) ∧ Hid (Box wr gF 41 (sv of5)) ∧ Hid (SlO wr G vo M) ∧ Hid (Sl wr vl M) ∧ Hid (∀ g, vo.ownBlock = some g → OffS g vl)) (fun _ _ i _ => n - (intOf i).toNat)
  case atStart => exact ⟨0, [], none, none, 0, 0, 0, 0, Nat.zero_le _, rfl, rfl, rfl, by omega, by omega, ⟨rfl, rfl⟩, (fun x hx => by cases hx), hGs, LF, BF, World.ownsRow_nil _ _ _ _, Sl.nil _, fun g hg => by simp [Value.ownBlock] at hg⟩
  case round =>
    clear BF LF hGs
    obtain ⟨q, M, al1, ao1, ml, mo, cl1, co1, hq, rfl, rfl, rfl, hml, hmo, HMm, HOk, HGr, L, BF, SO, SL, OFF⟩ := hrel
    by_cases hlt : q < n
    · have hql : q < l.length := by have := HN.out; omega
      have HBr := HB.out.later L.out
      have hRw : Rw 1 wr (.slice al n cl) n (bv l) := by have := HBr.rw; rw [← HN.out] at this; exact this
      obtain ⟨bb, ob, e, hr⟩ := hRw.lies? (by omega)
      subst e
      have hcb := hr _ _ (bv_get_lt l q hql)
      generalize l[q] = x at *
      obtain ⟨kk, hkk⟩ : ∃ kk, kk = x.toNat % 6 := ⟨_, rfl⟩
      have hrem : ((x.toNat : Int).tmod 6) = (kk : Int) := by rw [hkk]; rfl
      have hk6 : kk < 6 := by omega
      have hwr : IntKind.i64.wrap (kk : Int) = (kk : Int) := by rw [IntKind.wrap_i64]; omega
      clear hr hRw HBr hkk
      have HM4 : Hid (M.length ≤ 4) := by have := HMm.out; unfold Hid; omega
      by_cases hk5 : kk = 5
      · have hke : ((kk : Int) == 5) = true := by rw [hk5]; rfl
        go_wp2_with fail
        refine (iF _ M _ SL.out (by have := HM4.out; omega)).mono ?_
        rintro e w8 ⟨vr, rfl, hl, hR, hoff⟩
        have HOF : Hid (∀ g, (Value.slice ao1 mo co1).ownBlock = some g → OffS g vr) := fun g hg => hoff g (SO.out.lt g hg).2
        replace L := hide (L.out.later hl)
        replace BF := hide (BF.out.later hl)
        replace SO := hide (SO.out.later hl)
        replace HGr := hide (Nat.le_trans HGr.out hl.size)
        have R := hide hR
        clear hl hR hoff SL OFF hcb
        obtain ⟨ar, nr, cr, rfl, HNr, hnr⟩ := R.out.shape
        go_wp2_with (refine wpList_newS rfl rfl rfl 8 rfl (by simp) (.tmp 38) (by simp) rfl (headS M) rfl ?_)
        intro gx w9 hB hl hg
        replace L := hide (L.out.later hl)
        replace BF := hide (BF.out.later hl)
        replace SO := hide (SO.out.later hl)
        replace R := hide (R.out.later hl)
        replace HGr := hide (Nat.le_trans HGr.out hl.size)
        have BX := hide hB
        clear hB hl hg
        cases M with
        | nil =>
          obtain rfl : mo = 0 := by have := HMm.out.2; simpa using this
          obtain rfl : nr = 0 := by have := HNr.out; simpa using this
          go_wp2_with fail
          have hc := fun r => ((Later.refl w9).drew.trans (later_rg w9.drew r))
          have x0 := fun r => (BX.out.later (hc r)).cell 0
          have x1 := fun r => (BX.out.later (hc r)).cell 1
          have x2 := fun r => (BX.out.later (hc r)).cell 2
          refine wp_region_sched ((List.range 25).map fun i => (i, false)) (by kernel_rfl) (by kernel_rfl) (by kernel_rfl) (by kernel_rfl) ?_
          simp only [List.range, List.range.loop, List.map]
          iterate 5 (refine wpS_mild rfl (fun K hK => ?_); go_simp; refine hK _ ?_; clear hK K)
          refine wpS_call rfl (by kernel_rfl) 12 (Plain.of (by kernel_rfl)) [.tmp 44] _ rfl [sval (0, 0, 0)] rfl (.bool true) (fun wx hx => iG (0, 0, 0) wx ⟨by simp, by simp, by simp⟩) ?_
          iterate 19 (refine wpS_mild rfl (fun K hK => ?_); go_simp; refine hK _ ?_; clear hK K)
          refine wpS_nil (fun wx hwx => ?_)
          have hl := (Later.refl w9).drew.trans hwx
          replace L := hide (L.out.later hl)
          replace BF := hide (BF.out.later hl)
          replace SO := hide (SO.out.later hl)
          replace R := hide (R.out.later hl)
          replace HGr := hide (Nat.le_trans HGr.out hl.size)
          clear hwx hl hc x0 x1 x2 BX
          go_wp2
          go_roundw
          case rel => exact ⟨q + 1, [], _, _, _, _, _, _, by omega, by go_num, rfl, rfl, by omega, by omega, ⟨rfl, rfl⟩, (fun x hx => by cases hx), HGr, L, BF, SO, R, HOF⟩
          case measure => simp [intOf]; omega
        | cons s M' =>
          obtain ⟨m1, rfl⟩ : ∃ m1, mo = m1 + 1 := ⟨M'.length, by have := HMm.out.2; simpa using this⟩
          have HM1 : Hid (m1 = M'.length) := by have := HMm.out.2; simpa [Hid] using this
          have hnr1 : Hid (nr = M'.length) := by have := HNr.out; simpa [Hid] using this
          obtain ⟨gO, cO, e, hgO⟩ := owns_head SO.out (by simp)
          simp only [Value.slice.injEq] at e
          obtain ⟨e1, e2, e3⟩ := e
          subst e1
          subst e3
          clear e2
          have hm0 : ((m1 : Int) + 1 == 0) = false := by rw [beq_eq_false_iff_ne]; omega
          have RO : Hid (Rw 3 w9 (.slice (some ⟨gO, 0, none⟩) (m1 + 1) co1) (m1 + 1) (sv (s :: M'))) := by
            have := Rw.of_owns SO.out
            rw [show (s :: M').length = m1 + 1 from by rw [List.length_cons, HM1.out]] at this
            exact this
          have hat := sv_at (s :: M') 0 (by simp)
          simp only [Nat.zero_mul, Nat.zero_add, List.getElem_cons_zero] at hat
          have c0 := RO.out.lies _ _ hat.1
          have c1 := RO.out.lies _ _ hat.2.1
          have c2 := RO.out.lies _ _ hat.2.2
          simp only [Addr.add_mid, Nat.zero_add] at c0 c1 c2
          go_wp2_with fail
          have hc := fun r => ((Later.refl w9).drew.trans (later_rg w9.drew r))
          have x0 := fun r => (BX.out.later (hc r)).cell 0
          have x1 := fun r => (BX.out.later (hc r)).cell 1
          have x2 := fun r => (BX.out.later (hc r)).cell 2
          have o0 := fun r => (hc r).cellOf c0
          have o1 := fun r => (hc r).cellOf c1
          have o2 := fun r => (hc r).cellOf c2
          refine wp_region_sched ((List.range 25).map fun i => (i, false)) (by kernel_rfl) (by kernel_rfl) (by kernel_rfl) (by kernel_rfl) ?_
          simp only [List.range, List.range.loop, List.map]
          iterate 22 (refine wpS_mild rfl (fun K hK => ?_); go_simp; refine hK _ ?_; clear hK K)
          refine wpS_neqG rfl (by kernel_rfl) 23 _ (.tmp 58) (.tmp 61) rfl _ _ rfl rfl Try.guard_sense (s == s) (fun w => sense_eq s s w) ?_
          rw [show (s == s) = true from by simp]
          iterate 2 (refine wpS_mild rfl (fun K hK => ?_); go_simp; refine hK _ ?_; clear hK K)
          refine wpS_nil (fun wx hwx => ?_)
          have hl := (Later.refl w9).drew.trans hwx
          replace L := hide (L.out.later hl)
          replace BF := hide (BF.out.later hl)
          replace SO := hide (SO.out.later hl)
          replace R := hide (R.out.later hl)
          replace RO := hide (RO.out.later hl)
          replace HGr := hide (Nat.le_trans HGr.out hl.size)
          clear hwx hl hc x0 x1 x2 o0 o1 o2 c0 c1 c2 hat BX
          have O0 : Hid ((wx.alloc (.cells #[] 23)).ownsRow wx.heap.size 23 3 (.slice (some ⟨wx.heap.size, 0, none⟩) 0 0) 0 []) :=
            World.ownsRow_lit (base := wx.heap.size) (e := 23) (size := 3) wx #[] 0 (Nat.le_refl _) (by simp [maxLen]) rfl
          have R0 := hide (RO.out.later ((Later.refl wx).alloc (.cells #[] 23)))
          have Lx := hide ((Later.refl wx).alloc (.cells #[] 23))
          go_wp2_with (refine wpList_slice_lo Try.underlying34 Try.info_sense rfl (.tmp 69) (.const (.int .i64 1)) rfl _ (m1 + 1) (sv (s :: M')) rfl R0.out 1 1 rfl rfl ?h1 ?_)
          case h1 => omega
          intro vt ht
          have HT : Hid (Rw 3 (wx.alloc (.cells #[] 23)) vt m1 (sv M')) := by
            have e2 : ((sv (s :: M')).drop 3).take (m1 * 3) = sv M' := by
              rw [show (3 : Nat) = 1 * 3 from rfl, sv_drop]
              simp only [List.drop_succ_cons, List.drop_zero]
              exact List.take_of_length_le (by rw [sv_length, HM1.out]; exact Nat.le_refl _)
            have := ht.out
            rw [e2] at this
            exact this
          clear ht
          go_wp2_with (at_builtin; refine wpList_append_rw Try.elem_sense Try.underlying34 rfl (by decide) rfl (.tmp 68) (.tmp 70) rfl wx.heap.size _ 0 [] rfl O0.out _ m1 (sv M') rfl HT.out (sv_one M') ?c1 ?c2 ?c3 wx Lx.out ?_)
          case c1 => omega
          case c2 => unfold maxLen; omega
          case c3 => simp
          intro v11 w11 ho hl hg
          have hOF : Hid (∀ g, v11.ownBlock = some g → OffS g (.slice ar nr cr)) := fun g hg => R.out.1.old (by decide) (ho.lt g hg).1
          have SO2 : Hid (SlO w11 G v11 M') := by
            unfold Hid SlO
            rw [← HM1.out]
            have := owns_rebase ho HGr.out
            simpa using this
          replace L := hide (L.out.later hl)
          replace BF := hide (BF.out.later hl)
          replace R := hide (R.out.later hl)
          replace HGr := hide (Nat.le_trans HGr.out hl.size)
          clear hl hg ho O0 R0 Lx HT SO RO
          obtain ⟨a11, n11, c11, rfl, hn11⟩ := SO2.out.length
          have HN11 := hide hn11
          have hn4 : n11 ≤ 4 := by have := HM1.out; omega
          have hnr4 : nr ≤ 4 := by have := HM1.out; have := hnr1.out; omega
          clear hn11
          go_wp2
          go_roundw
          case rel => exact ⟨q + 1, M', _, _, _, _, _, _, by omega, by go_num, rfl, rfl, hnr4, hn4, ⟨hnr1.out, HN11.out⟩, (fun x hx => HOk.out x (by simp [hx])), HGr, L, BF, SO2, R, hOF⟩
          case measure => simp [intOf]; omega
      · have hke : ((kk : Int) == 5) = false := by rw [beq_eq_false_iff_ne]; omega
        have hk5' : kk < of5.length := by simp [of5]; omega
        have hcs := box_sense BF.out kk hk5'
        have HSok := hide (of5_ok _ (List.getElem_mem hk5'))
        have HSp := hide (of5_power kk (by omega))
        have HS0 : Hid (kk = 0 → of5[kk]'hk5' = power) := fun h => by subst h; rfl
        generalize hSe : of5[kk]'hk5' = S at *
        have HSe := hide hSe
        clear hSe
        have z0 := hcs.1
        have z1 := hcs.2.1
        have z2 := hcs.2.2
        clear hcs
        go_wp2_with fail
        refine (iA _ M S _ SL.out HSok.out (by have := HM4.out; omega)).mono ?_
        rintro e w8 ⟨vr, rfl, hl, hR, hoff⟩
        have OFFx : Hid (∀ g, (Value.slice ao1 mo co1).ownBlock = some g → OffS g vr) := fun g hg => hoff g (SO.out.lt g hg).2
        replace L := hide (L.out.later hl)
        replace BF := hide (BF.out.later hl)
        replace SO := hide (SO.out.later hl)
        have HGx := hide (Nat.le_trans HGr.out hl.size)
        have SLx := hide hR
        clear hl hR hoff SL OFF hcb HGr z0 z1 z2
        have HAok := hide (addL_ok HOk.out HSok.out)
        obtain ⟨ar, nr, cr, rfl, HN2, hnr⟩ := SLx.out.shape
        have hnr4 : nr ≤ 4 := by have := HN2.out; have := addL_four (s := S) HM4.out; omega
        by_cases hk0 : kk = 0
        · have hkz : ((kk : Int) == 0) = true := by rw [hk0]; rfl
          have hSp : Hid (S = power) := HS0.out hk0
          have hSP : Hid ((S == power) = true) := by unfold Hid; rw [hSp.out]; rfl
          clear hk0
          have y0 : w8.cell? ⟨gF, 0, none⟩ = some (.int .i64 6) := BF.out.cell 0
          have y1 : w8.cell? ⟨gF, 1, none⟩ = some (.int .i64 41) := BF.out.cell 1
          have y2 : w8.cell? ⟨gF, 2, none⟩ = some (.int .i64 0) := BF.out.cell 2
          go_wp2_with fail
          refine (rhas_c power _ (SO.out.sl HOk.out)).mono ?_
          rintro e w9 ⟨rfl, hl⟩
          replace L := hide (L.out.later hl)
          replace BF := hide (BF.out.later hl)
          replace SO := hide (SO.out.later hl)
          replace SLx := hide (SLx.out.later hl)
          replace HGx := hide (Nat.le_trans HGx.out hl.size)
          clear hl y0 y1 y2
          rw [← hSp.out]
          cases hH : hasB M S with
          | true =>
            have hA : Hid (addL M S = M) := by unfold Hid addL; rw [if_pos hH]
            have hcs := box_sense BF.out kk hk5'
            rw [HSe.out] at hcs
            have z0 := hcs.1
            have z1 := hcs.2.1
            have z2 := hcs.2.2
            clear hcs
            go_wp2_with fail
            refine (rhas_c S _ (SO.out.sl HOk.out)).mono ?_
            rintro e wh ⟨rfl, hl⟩
            replace L := hide (L.out.later hl)
            replace BF := hide (BF.out.later hl)
            replace SO := hide (SO.out.later hl)
            replace SLx := hide (SLx.out.later hl)
            replace HGx := hide (Nat.le_trans HGx.out hl.size)
            clear hl z0 z1 z2
            rw [hH]
            have SOx : Hid (SlO wh G (.slice ao1 mo co1) (addL M S)) := by unfold Hid; rw [hA.out]; exact SO.out
            go_wp2_with fail
            refine (rsame4_c _ SLx.out (SOx.out.sl HAok.out)).mono ?_
            rintro e wz ⟨rfl, hl⟩
            replace L := hide (L.out.later hl)
            replace BF := hide (BF.out.later hl)
            replace SOx := hide (SOx.out.later hl)
            replace SLx := hide (SLx.out.later hl)
            replace HGx := hide (Nat.le_trans HGx.out hl.size)
            clear hl
            rw [show (addL M S == addL M S) = true from by simp]
            go_wp2
            go_roundw
            case rel => exact ⟨q + 1, addL M S, _, _, _, _, _, _, by omega, by go_num, rfl, rfl, hnr4, hmo, ⟨HN2.out, by rw [hA.out]; exact HMm.out.2⟩, HAok, HGx, L, BF, SOx, SLx, OFFx⟩
            case measure => simp [intOf]; omega
          | false =>
            have hA : Hid (addL M S = [S]) := by unfold Hid addL; rw [if_neg (by simp [hH]), if_pos hSP.out]
            have y0 : w9.cell? ⟨gF, 0, none⟩ = some (.int .i64 6) := BF.out.cell 0
            have y1 : w9.cell? ⟨gF, 1, none⟩ = some (.int .i64 41) := BF.out.cell 1
            have y2 : w9.cell? ⟨gF, 2, none⟩ = some (.int .i64 0) := BF.out.cell 2
            have hO : Hid (SlO (w9.alloc (.cells #[.int .i64 6, .int .i64 41, .int .i64 0] 23)) w9.heap.size (.slice (some ⟨w9.heap.size, 0, none⟩) 1 1) [power]) := SlO.box w9 power
            have SOx : Hid (SlO (w9.alloc (.cells #[.int .i64 6, .int .i64 41, .int .i64 0] 23)) G (.slice (some ⟨w9.heap.size, 0, none⟩) 1 1) (addL M S)) := by unfold Hid; rw [hA.out, hSp.out]; exact hO.out.rebase HGx.out
            replace OFFx : Hid (∀ g, (Value.slice (some ⟨w9.heap.size, 0, none⟩) 1 1).ownBlock = some g → OffS g (.slice ar nr cr)) := fun g hg => SLx.out.1.old (by decide) (hO.out.lt g hg).1
            have hl := (Later.refl w9).alloc (.cells #[.int .i64 6, .int .i64 41, .int .i64 0] 23)
            replace L := hide (L.out.later hl)
            replace BF := hide (BF.out.later hl)
            replace SLx := hide (SLx.out.later hl)
            replace HGx := hide (Nat.le_trans HGx.out hl.size)
            clear hl hO SO
            go_wp2_with fail
            refine (rsame4_c _ SLx.out (SOx.out.sl HAok.out)).mono ?_
            rintro e wz ⟨rfl, hl⟩
            replace L := hide (L.out.later hl)
            replace BF := hide (BF.out.later hl)
            replace SOx := hide (SOx.out.later hl)
            replace SLx := hide (SLx.out.later hl)
            replace HGx := hide (Nat.le_trans HGx.out hl.size)
            clear hl
            rw [show (addL M S == addL M S) = true from by simp]
            go_wp2
            go_roundw
            case rel => exact ⟨q + 1, addL M S, _, _, _, _, _, _, by omega, by go_num, rfl, rfl, hnr4, by omega, ⟨HN2.out, by rw [hA.out]; rfl⟩, HAok, HGx, L, BF, SOx, SLx, OFFx⟩
            case measure => simp [intOf]; omega
        · have hkz : ((kk : Int) == 0) = false := by rw [beq_eq_false_iff_ne]; omega
          have hSP : Hid ((S == power) = false) := by unfold Hid; rw [HSp.out]; simp [hk0]
          have hcs := box_sense BF.out kk hk5'
          rw [HSe.out] at hcs
          have z0 := hcs.1
          have z1 := hcs.2.1
          have z2 := hcs.2.2
          clear hcs
          go_wp2_with fail
          refine (rhas_c S _ (SO.out.sl HOk.out)).mono ?_
          rintro e wh ⟨rfl, hl⟩
          replace L := hide (L.out.later hl)
          replace BF := hide (BF.out.later hl)
          replace SO := hide (SO.out.later hl)
          replace SLx := hide (SLx.out.later hl)
          replace HGx := hide (Nat.le_trans HGx.out hl.size)
          clear hl z0 z1 z2
          cases hH : hasB M S with
          | true =>
            have hA : Hid (addL M S = M) := by unfold Hid addL; rw [if_pos hH]
            have SOx : Hid (SlO wh G (.slice ao1 mo co1) (addL M S)) := by unfold Hid; rw [hA.out]; exact SO.out
            go_wp2_with fail
            refine (rsame4_c _ SLx.out (SOx.out.sl HAok.out)).mono ?_
            rintro e wz ⟨rfl, hl⟩
            replace L := hide (L.out.later hl)
            replace BF := hide (BF.out.later hl)
            replace SOx := hide (SOx.out.later hl)
            replace SLx := hide (SLx.out.later hl)
            replace HGx := hide (Nat.le_trans HGx.out hl.size)
            clear hl
            rw [show (addL M S == addL M S) = true from by simp]
            go_wp2
            go_roundw
            case rel => exact ⟨q + 1, addL M S, _, _, _, _, _, _, by omega, by go_num, rfl, rfl, hnr4, hmo, ⟨HN2.out, by rw [hA.out]; exact HMm.out.2⟩, HAok, HGx, L, BF, SOx, SLx, OFFx⟩
            case measure => simp [intOf]; omega
          | false =>
            by_cases hm3 : mo < 4
            · have hA : Hid (addL M S = M ++ [S]) := by unfold Hid addL; rw [if_neg (by simp [hH]), if_neg (by simp [hSP.out]), if_neg (by have := HMm.out.2; omega)]
              have hcs := box_sense BF.out kk hk5'
              rw [HSe.out] at hcs
              have z0 := hcs.1
              have z1 := hcs.2.1
              have z2 := hcs.2.2
              clear hcs
              have hO := hide (SlO.box wh S)
              have hla := hide ((Later.refl wh).alloc (.cells #[.int .i64 S.1, .int .i64 S.2.1, .int .i64 S.2.2] 23))
              have R1 : Hid (Rw 3 (wh.alloc (.cells #[.int .i64 S.1, .int .i64 S.2.1, .int .i64 S.2.2] 23)) (.slice (some ⟨wh.heap.size, 0, none⟩) 1 1) 1 (sv [S])) := Rw.of_owns hO.out
              have S1 : Hid ((wh.alloc (.cells #[.int .i64 S.1, .int .i64 S.2.1, .int .i64 S.2.2] 23)).ownsRow G 23 3 (.slice ao1 mo co1) mo (sv M)) := by
                have := SO.out.later hla.out
                unfold SlO at this
                rw [← HMm.out.2] at this
                exact this
              have HGa := hide (Nat.le_trans HGx.out hla.out.size)
              go_wp2_with (at_builtin; refine wpList_append_rw2 Try.elem_sense Try.underlying34 rfl (by decide) rfl (.tmp 101) (.tmp 105) rfl G _ mo (sv M) rfl S1.out _ 1 (sv [S]) rfl R1.out (sv_one _) ?c1 ?c2 HGa.out ?_)
              case c1 => omega
              case c2 => unfold maxLen; omega
              have hws : Hid ((wh.alloc (.cells #[.int .i64 S.1, .int .i64 S.2.1, .int .i64 S.2.2] 23)).heap.size = wh.heap.size + 1) := by simp [Hid]
              have hl := hla.out
              replace L := hide (L.out.later hl)
              replace BF := hide (BF.out.later hl)
              replace SLx := hide (SLx.out.later hl)
              clear hl hla hO R1 SO z0 z1 z2 HGx
              generalize (wh.alloc (.cells #[.int .i64 S.1, .int .i64 S.2.1, .int .i64 S.2.2] 23)) = wa at *
              intro v11 w11 ho hg hblk
              have OFFo := OFFx
              replace OFFx : Hid (∀ g, v11.ownBlock = some g → OffS g (.slice ar nr cr)) := fun g hg => by
                rcases hblk g hg with h | h
                · exact OFFo.out g h
                · exact SLx.out.1.old (by decide) (by rw [hws.out]; exact h)
              replace SLx : Hid (Sl w11 (.slice ar nr cr) (addL M S)) := ⟨keepRw hg OFFo.out SLx.out.1, SLx.out.2⟩
              replace BF := hide (box_grown BF.out S1.out (by decide) hg)
              replace L : Hid (Later w w11) := Below.grown L.out hg L.out.size (fun j hj => by have := (S1.out.lt j hj).1; omega)
              have HGx : Hid (G ≤ w11.heap.size) := Nat.le_trans HGa.out hg.size
              have SOx : Hid (SlO w11 G v11 (addL M S)) := by
                unfold Hid SlO
                rw [hA.out, sv_append, List.length_append, ← HMm.out.2]
                exact ho
              clear hg ho hblk OFFo S1 HGa
              obtain ⟨a11, n11, c11, rfl, hn11⟩ := SOx.out.length
              have HN11 := hide hn11
              have hn4 : n11 ≤ 4 := by rw [hn11]; exact addL_four HM4.out
              clear hn11
              go_wp2_with fail
              refine (rsame4_c _ SLx.out (SOx.out.sl HAok.out)).mono ?_
              rintro e wz ⟨rfl, hl⟩
              replace L := hide (L.out.later hl)
              replace BF := hide (BF.out.later hl)
              replace SOx := hide (SOx.out.later hl)
              replace SLx := hide (SLx.out.later hl)
              replace HGx := hide (Nat.le_trans HGx.out hl.size)
              clear hl
              rw [show (addL M S == addL M S) = true from by simp]
              go_wp2
              go_roundw
              case rel => exact ⟨q + 1, addL M S, _, _, _, _, _, _, by omega, by go_num, rfl, rfl, hnr4, hn4, ⟨HN2.out, HN11.out⟩, HAok, HGx, L, BF, SOx, SLx, OFFx⟩
              case measure => simp [intOf]; omega
            · have hA : Hid (addL M S = M) := by unfold Hid addL; rw [if_neg (by simp [hH]), if_neg (by simp [hSP.out]), if_pos (by have := HMm.out.2; omega)]
              have SOx : Hid (SlO wh G (.slice ao1 mo co1) (addL M S)) := by unfold Hid; rw [hA.out]; exact SO.out
              go_wp2_with fail
              refine (rsame4_c _ SLx.out (SOx.out.sl HAok.out)).mono ?_
              rintro e wz ⟨rfl, hl⟩
              replace L := hide (L.out.later hl)
              replace BF := hide (BF.out.later hl)
              replace SOx := hide (SOx.out.later hl)
              replace SLx := hide (SLx.out.later hl)
              replace HGx := hide (Nat.le_trans HGx.out hl.size)
              clear hl
              rw [show (addL M S == addL M S) = true from by simp]
              go_wp2
              go_roundw
              case rel => exact ⟨q + 1, addL M S, _, _, _, _, _, _, by omega, by go_num, rfl, rfl, hnr4, hmo, ⟨HN2.out, by rw [hA.out]; exact HMm.out.2⟩, HAok, HGx, L, BF, SOx, SLx, OFFx⟩
              case measure => simp [intOf]; omega
    · go_wp2_with fail
      refine (rsame4_c _ SL.out (SO.out.sl HOk.out)).mono ?_
      rintro e w8 ⟨rfl, hl⟩
      replace L := hide (L.out.later hl)
      clear hl
      rw [show (M == M) = true from by simp]
      go_wp2
      go_ret
      exact ⟨rfl, L.out⟩
end Go.Proofs.Ytfefnkeognccpaa
