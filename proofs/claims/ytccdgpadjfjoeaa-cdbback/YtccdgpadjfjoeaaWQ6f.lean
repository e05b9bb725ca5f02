import Derived.Test.YtccdgpadjfjoeaaMAT
namespace Go.Proofs.Ytccdgpadjfjoeaa
open Go.ChangeShapes Go.WideShapes Go.ChangeAt Go.RowKit
set_option linter.unusedVariables false
set_option linter.unusedSimpArgs false

/-! The code and the document lay the same. -/
def LayS (op : Int) : Prop := ∀ a n2 n3 n4 : Nat, fitsN op a n2 n3 n4 → layC (op, a, (n2 : Int), (n3 : Int), (n4 : Int)) = layS op a n2 n3 n4
theorem lay_8 : LayS 8 := by
  intro a n2 n3 n4 h
  simp only [fitsN, show fitT 8 = (2097151, 1, 256, 0, 0) from rfl] at h
  show (layP 0 (layP 0 (layP 1028 (layP 2691 (initB 8) a) (u64N (n2 : Int))) (u64N (n3 : Int))) (u64N (n4 : Int))) = _
  rw [u64N_nat n2 (by omega), u64N_nat n3 (by omega), u64N_nat n4 (by omega)]
  simp only [layP_zero]
  have L0 : (initB 8).length = 6 := rfl
  rw [layP_21 _ a (by rw [L0]; omega) rfl (by omega)]
  have L1 : (over (initB 8) 1 (putBe a 3)).length = 6 := rfl
  rw [layP_one 1028 4 0 8 (by decide) (by decide) (by decide) (by decide) (by decide) (over (initB 8) 1 (putBe a 3)) n2 (by rw [L1]; omega)]
  have L2 : ((over (initB 8) 1 (putBe a 3)).set 4 (bof (setN (Bn (over (initB 8) 1 (putBe a 3)) 4) 0 8 n2))).length = 6 := rfl
  have hz : Bn (over (initB 8) 1 (putBe a 3)) 4 = 0 := rfl
  rw [hz]
  have e1 : bof (setN 0 0 8 n2) = bof n2 := by
    rw [setN_zero]
    apply UInt8.toNat_inj.1
    rw [bof_toNat, bof_toNat]
    omega
  have e2 : (over (initB 8) 1 (putBe a 3)).set 1 (bof (Bn (over (initB 8) 1 (putBe a 3)) 1 % 32)) = (over (initB 8) 1 (putBe a 3)) := by
    have hb : Bn (over (initB 8) 1 (putBe a 3)) 1 = a / 65536 % 256 := by
      show (UInt8.ofNat (a / 256 ^ 2)).toNat = _
      simp [UInt8.toNat_ofNat']
    have hc : bof (Bn (over (initB 8) 1 (putBe a 3)) 1 % 32) = UInt8.ofNat (a / 256 ^ 2) := by
      apply UInt8.toNat_inj.1
      rw [hb, bof_toNat]
      simp [UInt8.toNat_ofNat']
      omega
    rw [hc]
    rfl
  show _ = ((over (initB 8) 1 (putBe a 3)).set 1 (bof (Bn (over (initB 8) 1 (putBe a 3)) 1 % 32))).set 4 (bof n2)
  rw [e1, e2]
theorem lay_10 : LayS 10 := by
  intro a n2 n3 n4 h
  simp only [fitsN, show fitT 10 = (2097151, 1, 256, 0, 0) from rfl] at h
  show (layP 0 (layP 0 (layP 1028 (layP 2691 (initB 10) a) (u64N (n2 : Int))) (u64N (n3 : Int))) (u64N (n4 : Int))) = _
  rw [u64N_nat n2 (by omega), u64N_nat n3 (by omega), u64N_nat n4 (by omega)]
  simp only [layP_zero]
  have L0 : (initB 10).length = 6 := rfl
  rw [layP_21 _ a (by rw [L0]; omega) rfl (by omega)]
  have L1 : (over (initB 10) 1 (putBe a 3)).length = 6 := rfl
  rw [layP_one 1028 4 0 8 (by decide) (by decide) (by decide) (by decide) (by decide) (over (initB 10) 1 (putBe a 3)) n2 (by rw [L1]; omega)]
  have L2 : ((over (initB 10) 1 (putBe a 3)).set 4 (bof (setN (Bn (over (initB 10) 1 (putBe a 3)) 4) 0 8 n2))).length = 6 := rfl
  have hz : Bn (over (initB 10) 1 (putBe a 3)) 4 = 0 := rfl
  rw [hz]
  have e1 : bof (setN 0 0 8 n2) = bof n2 := by
    rw [setN_zero]
    apply UInt8.toNat_inj.1
    rw [bof_toNat, bof_toNat]
    omega
  have e2 : (over (initB 10) 1 (putBe a 3)).set 1 (bof (Bn (over (initB 10) 1 (putBe a 3)) 1 % 32)) = (over (initB 10) 1 (putBe a 3)) := by
    have hb : Bn (over (initB 10) 1 (putBe a 3)) 1 = a / 65536 % 256 := by
      show (UInt8.ofNat (a / 256 ^ 2)).toNat = _
      simp [UInt8.toNat_ofNat']
    have hc : bof (Bn (over (initB 10) 1 (putBe a 3)) 1 % 32) = UInt8.ofNat (a / 256 ^ 2) := by
      apply UInt8.toNat_inj.1
      rw [hb, bof_toNat]
      simp [UInt8.toNat_ofNat']
      omega
    rw [hc]
    rfl
  show _ = ((over (initB 10) 1 (putBe a 3)).set 1 (bof (Bn (over (initB 10) 1 (putBe a 3)) 1 % 32))).set 4 (bof n2)
  rw [e1, e2]
theorem lay_40 : LayS 40 := by
  intro a n2 n3 n4 h
  simp only [fitsN, show fitT 40 = (4294967295, 0, 65535, 0, 1) from rfl] at h
  show (layP 177 (layP 0 (layP 2056 (layP 4101 (initB 40) a) (u64N (n2 : Int))) (u64N (n3 : Int))) (u64N (n4 : Int))) = _
  rw [u64N_nat n2 (by omega), u64N_nat n3 (by omega), u64N_nat n4 (by omega)]
  simp only [layP_zero]
  have L0 : (initB 40).length = 10 := rfl
  rw [layP_big 4101 2 4 (by decide) (by decide) (by decide) (by decide) (by decide) (initB 40) a (by rw [L0]; omega)]
  have L1 : (over (initB 40) 2 (putBe a 4)).length = 10 := rfl
  rw [layP_big 2056 7 2 (by decide) (by decide) (by decide) (by decide) (by decide) (over (initB 40) 2 (putBe a 4)) n2 (by rw [L1]; omega)]
  have L2 : (over (over (initB 40) 2 (putBe a 4)) 7 (putBe n2 2)).length = 10 := rfl
  rw [layP_one 177 1 3 1 (by decide) (by decide) (by decide) (by decide) (by decide) (over (over (initB 40) 2 (putBe a 4)) 7 (putBe n2 2)) n4 (by rw [L2]; omega)]
  have hb : Bn (over (over (initB 40) 2 (putBe a 4)) 7 (putBe n2 2)) 1 = 0 := rfl
  rw [hb]
  have e4 : n4 = 0 ∨ n4 = 1 := by omega
  rcases e4 with rfl | rfl
  · have e : bof (setN 0 3 1 0) = 0 := rfl
    rw [e]
    rfl
  · have e : bof (setN 0 3 1 1) = 8 := rfl
    rw [e]
    rfl
theorem lay_42 : LayS 42 := by
  intro a n2 n3 n4 h
  simp only [fitsN, show fitT 42 = (4294967295, 0, 65535, 0, 1) from rfl] at h
  show (layP 177 (layP 0 (layP 2056 (layP 4101 (initB 42) a) (u64N (n2 : Int))) (u64N (n3 : Int))) (u64N (n4 : Int))) = _
  rw [u64N_nat n2 (by omega), u64N_nat n3 (by omega), u64N_nat n4 (by omega)]
  simp only [layP_zero]
  have L0 : (initB 42).length = 10 := rfl
  rw [layP_big 4101 2 4 (by decide) (by decide) (by decide) (by decide) (by decide) (initB 42) a (by rw [L0]; omega)]
  have L1 : (over (initB 42) 2 (putBe a 4)).length = 10 := rfl
  rw [layP_big 2056 7 2 (by decide) (by decide) (by decide) (by decide) (by decide) (over (initB 42) 2 (putBe a 4)) n2 (by rw [L1]; omega)]
  have L2 : (over (over (initB 42) 2 (putBe a 4)) 7 (putBe n2 2)).length = 10 := rfl
  rw [layP_one 177 1 3 1 (by decide) (by decide) (by decide) (by decide) (by decide) (over (over (initB 42) 2 (putBe a 4)) 7 (putBe n2 2)) n4 (by rw [L2]; omega)]
  have hb : Bn (over (over (initB 42) 2 (putBe a 4)) 7 (putBe n2 2)) 1 = 0 := rfl
  rw [hb]
  have e4 : n4 = 0 ∨ n4 = 1 := by omega
  rcases e4 with rfl | rfl
  · have e : bof (setN 0 3 1 0) = 0 := rfl
    rw [e]
    rfl
  · have e : bof (setN 0 3 1 1) = 8 := rfl
    rw [e]
    rfl
theorem lay_136 : LayS 136 := by
  intro a n2 n3 n4 h
  simp only [fitsN, show fitT 136 = (18446744073709551615, 0, 4294967295, 0, 1) from rfl] at h
  show (layP 177 (layP 0 (layP 4109 (layP 8201 (initB 136) a) (u64N (n2 : Int))) (u64N (n3 : Int))) (u64N (n4 : Int))) = _
  rw [u64N_nat n2 (by omega), u64N_nat n3 (by omega), u64N_nat n4 (by omega)]
  simp only [layP_zero]
  have L0 : (initB 136).length = 16 := rfl
  rw [layP_big 8201 2 8 (by decide) (by decide) (by decide) (by decide) (by decide) (initB 136) a (by rw [L0]; omega)]
  have L1 : (over (initB 136) 2 (putBe a 8)).length = 16 := rfl
  rw [layP_big 4109 10 4 (by decide) (by decide) (by decide) (by decide) (by decide) (over (initB 136) 2 (putBe a 8)) n2 (by rw [L1]; omega)]
  have L2 : (over (over (initB 136) 2 (putBe a 8)) 10 (putBe n2 4)).length = 16 := rfl
  rw [layP_one 177 1 3 1 (by decide) (by decide) (by decide) (by decide) (by decide) (over (over (initB 136) 2 (putBe a 8)) 10 (putBe n2 4)) n4 (by rw [L2]; omega)]
  have hb : Bn (over (over (initB 136) 2 (putBe a 8)) 10 (putBe n2 4)) 1 = 0 := rfl
  rw [hb]
  have e4 : n4 = 0 ∨ n4 = 1 := by omega
  rcases e4 with rfl | rfl
  · have e : bof (setN 0 3 1 0) = 0 := rfl
    rw [e]
    rfl
  · have e : bof (setN 0 3 1 1) = 8 := rfl
    rw [e]
    rfl
theorem lay_138 : LayS 138 := by
  intro a n2 n3 n4 h
  simp only [fitsN, show fitT 138 = (18446744073709551615, 0, 4294967295, 0, 1) from rfl] at h
  show (layP 177 (layP 0 (layP 4109 (layP 8201 (initB 138) a) (u64N (n2 : Int))) (u64N (n3 : Int))) (u64N (n4 : Int))) = _
  rw [u64N_nat n2 (by omega), u64N_nat n3 (by omega), u64N_nat n4 (by omega)]
  simp only [layP_zero]
  have L0 : (initB 138).length = 16 := rfl
  rw [layP_big 8201 2 8 (by decide) (by decide) (by decide) (by decide) (by decide) (initB 138) a (by rw [L0]; omega)]
  have L1 : (over (initB 138) 2 (putBe a 8)).length = 16 := rfl
  rw [layP_big 4109 10 4 (by decide) (by decide) (by decide) (by decide) (by decide) (over (initB 138) 2 (putBe a 8)) n2 (by rw [L1]; omega)]
  have L2 : (over (over (initB 138) 2 (putBe a 8)) 10 (putBe n2 4)).length = 16 := rfl
  rw [layP_one 177 1 3 1 (by decide) (by decide) (by decide) (by decide) (by decide) (over (over (initB 138) 2 (putBe a 8)) 10 (putBe n2 4)) n4 (by rw [L2]; omega)]
  have hb : Bn (over (over (initB 138) 2 (putBe a 8)) 10 (putBe n2 4)) 1 = 0 := rfl
  rw [hb]
  have e4 : n4 = 0 ∨ n4 = 1 := by omega
  rcases e4 with rfl | rfl
  · have e : bof (setN 0 3 1 0) = 0 := rfl
    rw [e]
    rfl
  · have e : bof (setN 0 3 1 1) = 8 := rfl
    rw [e]
    rfl
theorem lay_168 : LayS 168 := by
  intro a n2 n3 n4 h
  simp only [fitsN, show fitT 168 = (4294967295, 0, 4294967295, 0, 1) from rfl] at h
  show (layP 177 (layP 0 (layP 4105 (layP 4101 (initB 168) a) (u64N (n2 : Int))) (u64N (n3 : Int))) (u64N (n4 : Int))) = _
  rw [u64N_nat n2 (by omega), u64N_nat n3 (by omega), u64N_nat n4 (by omega)]
  simp only [layP_zero]
  have L0 : (initB 168).length = 12 := rfl
  rw [layP_big 4101 2 4 (by decide) (by decide) (by decide) (by decide) (by decide) (initB 168) a (by rw [L0]; omega)]
  have L1 : (over (initB 168) 2 (putBe a 4)).length = 12 := rfl
  rw [layP_big 4105 6 4 (by decide) (by decide) (by decide) (by decide) (by decide) (over (initB 168) 2 (putBe a 4)) n2 (by rw [L1]; omega)]
  have L2 : (over (over (initB 168) 2 (putBe a 4)) 6 (putBe n2 4)).length = 12 := rfl
  rw [layP_one 177 1 3 1 (by decide) (by decide) (by decide) (by decide) (by decide) (over (over (initB 168) 2 (putBe a 4)) 6 (putBe n2 4)) n4 (by rw [L2]; omega)]
  have hb : Bn (over (over (initB 168) 2 (putBe a 4)) 6 (putBe n2 4)) 1 = 0 := rfl
  rw [hb]
  have e4 : n4 = 0 ∨ n4 = 1 := by omega
  rcases e4 with rfl | rfl
  · have e : bof (setN 0 3 1 0) = 0 := rfl
    rw [e]
    rfl
  · have e : bof (setN 0 3 1 1) = 8 := rfl
    rw [e]
    rfl
theorem lay_170 : LayS 170 := by
  intro a n2 n3 n4 h
  simp only [fitsN, show fitT 170 = (4294967295, 0, 4294967295, 0, 1) from rfl] at h
  show (layP 177 (layP 0 (layP 4105 (layP 4101 (initB 170) a) (u64N (n2 : Int))) (u64N (n3 : Int))) (u64N (n4 : Int))) = _
  rw [u64N_nat n2 (by omega), u64N_nat n3 (by omega), u64N_nat n4 (by omega)]
  simp only [layP_zero]
  have L0 : (initB 170).length = 12 := rfl
  rw [layP_big 4101 2 4 (by decide) (by decide) (by decide) (by decide) (by decide) (initB 170) a (by rw [L0]; omega)]
  have L1 : (over (initB 170) 2 (putBe a 4)).length = 12 := rfl
  rw [layP_big 4105 6 4 (by decide) (by decide) (by decide) (by decide) (by decide) (over (initB 170) 2 (putBe a 4)) n2 (by rw [L1]; omega)]
  have L2 : (over (over (initB 170) 2 (putBe a 4)) 6 (putBe n2 4)).length = 12 := rfl
  rw [layP_one 177 1 3 1 (by decide) (by decide) (by decide) (by decide) (by decide) (over (over (initB 170) 2 (putBe a 4)) 6 (putBe n2 4)) n4 (by rw [L2]; omega)]
  have hb : Bn (over (over (initB 170) 2 (putBe a 4)) 6 (putBe n2 4)) 1 = 0 := rfl
  rw [hb]
  have e4 : n4 = 0 ∨ n4 = 1 := by omega
  rcases e4 with rfl | rfl
  · have e : bof (setN 0 3 1 0) = 0 := rfl
    rw [e]
    rfl
  · have e : bof (setN 0 3 1 1) = 8 := rfl
    rw [e]
    rfl
theorem lay_47 : LayS 47 := by
  intro a n2 n3 n4 h
  simp only [fitsN, show fitT 47 = (4294967295, 0, 65535, 0, 1) from rfl] at h
  show (layP 145 (layP 0 (layP 2056 (layP 4101 (layP 161 (initB 47) 0) a) (u64N (n2 : Int))) (u64N (n3 : Int))) (u64N (n4 : Int))) = _
  rw [u64N_nat n2 (by omega), u64N_nat n3 (by omega), u64N_nat n4 (by omega)]
  simp only [layP_zero]
  have L0 : (initB 47).length = 10 := rfl
  rw [layP_one 161 1 2 1 (by decide) (by decide) (by decide) (by decide) (by decide) (initB 47) 0 (by rw [L0]; omega)]
  have L1 : ((initB 47).set 1 (bof (setN (Bn (initB 47) 1) 2 1 0))).length = 10 := rfl
  have em : ((initB 47).set 1 (bof (setN (Bn (initB 47) 1) 2 1 0))) = (initB 47) := by decide
  rw [em]
  have L2 : (initB 47).length = 10 := rfl
  rw [layP_big 4101 2 4 (by decide) (by decide) (by decide) (by decide) (by decide) (initB 47) a (by rw [L2]; omega)]
  have L3 : (over (initB 47) 2 (putBe a 4)).length = 10 := rfl
  rw [layP_big 2056 7 2 (by decide) (by decide) (by decide) (by decide) (by decide) (over (initB 47) 2 (putBe a 4)) n2 (by rw [L3]; omega)]
  have L4 : (over (over (initB 47) 2 (putBe a 4)) 7 (putBe n2 2)).length = 10 := rfl
  rw [layP_one 145 1 1 1 (by decide) (by decide) (by decide) (by decide) (by decide) (over (over (initB 47) 2 (putBe a 4)) 7 (putBe n2 2)) n4 (by rw [L4]; omega)]
  have hb : Bn (over (over (initB 47) 2 (putBe a 4)) 7 (putBe n2 2)) 1 = 0 := rfl
  rw [hb]
  have e4 : n4 = 0 ∨ n4 = 1 := by omega
  rcases e4 with rfl | rfl
  · have e : bof (setN 0 1 1 0) = 0 := rfl
    rw [e]
    rfl
  · have e : bof (setN 0 1 1 1) = 2 := rfl
    rw [e]
    rfl
theorem lay_143 : LayS 143 := by
  intro a n2 n3 n4 h
  simp only [fitsN, show fitT 143 = (18446744073709551615, 0, 4294967295, 0, 1) from rfl] at h
  show (layP 145 (layP 0 (layP 4109 (layP 8201 (layP 161 (initB 143) 0) a) (u64N (n2 : Int))) (u64N (n3 : Int))) (u64N (n4 : Int))) = _
  rw [u64N_nat n2 (by omega), u64N_nat n3 (by omega), u64N_nat n4 (by omega)]
  simp only [layP_zero]
  have L0 : (initB 143).length = 16 := rfl
  rw [layP_one 161 1 2 1 (by decide) (by decide) (by decide) (by decide) (by decide) (initB 143) 0 (by rw [L0]; omega)]
  have L1 : ((initB 143).set 1 (bof (setN (Bn (initB 143) 1) 2 1 0))).length = 16 := rfl
  have em : ((initB 143).set 1 (bof (setN (Bn (initB 143) 1) 2 1 0))) = (initB 143) := by decide
  rw [em]
  have L2 : (initB 143).length = 16 := rfl
  rw [layP_big 8201 2 8 (by decide) (by decide) (by decide) (by decide) (by decide) (initB 143) a (by rw [L2]; omega)]
  have L3 : (over (initB 143) 2 (putBe a 8)).length = 16 := rfl
  rw [layP_big 4109 10 4 (by decide) (by decide) (by decide) (by decide) (by decide) (over (initB 143) 2 (putBe a 8)) n2 (by rw [L3]; omega)]
  have L4 : (over (over (initB 143) 2 (putBe a 8)) 10 (putBe n2 4)).length = 16 := rfl
  rw [layP_one 145 1 1 1 (by decide) (by decide) (by decide) (by decide) (by decide) (over (over (initB 143) 2 (putBe a 8)) 10 (putBe n2 4)) n4 (by rw [L4]; omega)]
  have hb : Bn (over (over (initB 143) 2 (putBe a 8)) 10 (putBe n2 4)) 1 = 0 := rfl
  rw [hb]
  have e4 : n4 = 0 ∨ n4 = 1 := by omega
  rcases e4 with rfl | rfl
  · have e : bof (setN 0 1 1 0) = 0 := rfl
    rw [e]
    rfl
  · have e : bof (setN 0 1 1 1) = 2 := rfl
    rw [e]
    rfl
theorem lay_175 : LayS 175 := by
  intro a n2 n3 n4 h
  simp only [fitsN, show fitT 175 = (4294967295, 0, 4294967295, 0, 1) from rfl] at h
  show (layP 145 (layP 0 (layP 4105 (layP 4101 (layP 161 (initB 175) 0) a) (u64N (n2 : Int))) (u64N (n3 : Int))) (u64N (n4 : Int))) = _
  rw [u64N_nat n2 (by omega), u64N_nat n3 (by omega), u64N_nat n4 (by omega)]
  simp only [layP_zero]
  have L0 : (initB 175).length = 12 := rfl
  rw [layP_one 161 1 2 1 (by decide) (by decide) (by decide) (by decide) (by decide) (initB 175) 0 (by rw [L0]; omega)]
  have L1 : ((initB 175).set 1 (bof (setN (Bn (initB 175) 1) 2 1 0))).length = 12 := rfl
  have em : ((initB 175).set 1 (bof (setN (Bn (initB 175) 1) 2 1 0))) = (initB 175) := by decide
  rw [em]
  have L2 : (initB 175).length = 12 := rfl
  rw [layP_big 4101 2 4 (by decide) (by decide) (by decide) (by decide) (by decide) (initB 175) a (by rw [L2]; omega)]
  have L3 : (over (initB 175) 2 (putBe a 4)).length = 12 := rfl
  rw [layP_big 4105 6 4 (by decide) (by decide) (by decide) (by decide) (by decide) (over (initB 175) 2 (putBe a 4)) n2 (by rw [L3]; omega)]
  have L4 : (over (over (initB 175) 2 (putBe a 4)) 6 (putBe n2 4)).length = 12 := rfl
  rw [layP_one 145 1 1 1 (by decide) (by decide) (by decide) (by decide) (by decide) (over (over (initB 175) 2 (putBe a 4)) 6 (putBe n2 4)) n4 (by rw [L4]; omega)]
  have hb : Bn (over (over (initB 175) 2 (putBe a 4)) 6 (putBe n2 4)) 1 = 0 := rfl
  rw [hb]
  have e4 : n4 = 0 ∨ n4 = 1 := by omega
  rcases e4 with rfl | rfl
  · have e : bof (setN 0 1 1 0) = 0 := rfl
    rw [e]
    rfl
  · have e : bof (setN 0 1 1 1) = 2 := rfl
    rw [e]
    rfl
theorem lay_53 : LayS 53 := by
  intro a n2 n3 n4 h
  simp only [fitsN, show fitT 53 = (4294967295, 0, 65535, 0, 0) from rfl] at h
  show (layP 0 (layP 0 (layP 2056 (layP 4101 (initB 53) a) (u64N (n2 : Int))) (u64N (n3 : Int))) (u64N (n4 : Int))) = _
  rw [u64N_nat n2 (by omega), u64N_nat n3 (by omega), u64N_nat n4 (by omega)]
  simp only [layP_zero]
  have L0 : (initB 53).length = 10 := rfl
  rw [layP_big 4101 2 4 (by decide) (by decide) (by decide) (by decide) (by decide) (initB 53) a (by rw [L0]; omega)]
  have L1 : (over (initB 53) 2 (putBe a 4)).length = 10 := rfl
  rw [layP_big 2056 7 2 (by decide) (by decide) (by decide) (by decide) (by decide) (over (initB 53) 2 (putBe a 4)) n2 (by rw [L1]; omega)]
  have L2 : (over (over (initB 53) 2 (putBe a 4)) 7 (putBe n2 2)).length = 10 := rfl
  rfl
theorem lay_145 : LayS 145 := by
  intro a n2 n3 n4 h
  simp only [fitsN, show fitT 145 = (18446744073709551615, 0, 4294967295, 0, 0) from rfl] at h
  show (layP 0 (layP 0 (layP 4109 (layP 8201 (initB 145) a) (u64N (n2 : Int))) (u64N (n3 : Int))) (u64N (n4 : Int))) = _
  rw [u64N_nat n2 (by omega), u64N_nat n3 (by omega), u64N_nat n4 (by omega)]
  simp only [layP_zero]
  have L0 : (initB 145).length = 16 := rfl
  rw [layP_big 8201 2 8 (by decide) (by decide) (by decide) (by decide) (by decide) (initB 145) a (by rw [L0]; omega)]
  have L1 : (over (initB 145) 2 (putBe a 8)).length = 16 := rfl
  rw [layP_big 4109 10 4 (by decide) (by decide) (by decide) (by decide) (by decide) (over (initB 145) 2 (putBe a 8)) n2 (by rw [L1]; omega)]
  have L2 : (over (over (initB 145) 2 (putBe a 8)) 10 (putBe n2 4)).length = 16 := rfl
  rfl
theorem lay_3 : LayS 3 := by
  intro a n2 n3 n4 h
  simp only [fitsN, show fitT 3 = (0, 0, 255, 0, 0) from rfl] at h
  show (layP 0 (layP 0 (layP 1028 (layP 0 (layP 129 (initB 3) 0) a) (u64N (n2 : Int))) (u64N (n3 : Int))) (u64N (n4 : Int))) = _
  rw [u64N_nat n2 (by omega), u64N_nat n3 (by omega), u64N_nat n4 (by omega)]
  simp only [layP_zero]
  have L0 : (initB 3).length = 6 := rfl
  rw [layP_one 129 1 0 1 (by decide) (by decide) (by decide) (by decide) (by decide) (initB 3) 0 (by rw [L0]; omega)]
  have L1 : ((initB 3).set 1 (bof (setN (Bn (initB 3) 1) 0 1 0))).length = 6 := rfl
  have em : ((initB 3).set 1 (bof (setN (Bn (initB 3) 1) 0 1 0))) = (initB 3) := by decide
  rw [em]
  have L2 : (initB 3).length = 6 := rfl
  rw [layP_one 1028 4 0 8 (by decide) (by decide) (by decide) (by decide) (by decide) (initB 3) n2 (by rw [L2]; omega)]
  have L3 : ((initB 3).set 4 (bof (setN (Bn (initB 3) 4) 0 8 n2))).length = 6 := rfl
  have hz : Bn (initB 3) 4 = 0 := rfl
  rw [hz]
  have e1 : bof (setN 0 0 8 n2) = bof n2 := by
    rw [setN_zero]
    apply UInt8.toNat_inj.1
    rw [bof_toNat, bof_toNat]
    omega
  rw [e1]
  rfl
theorem lay_18 : LayS 18 := by
  intro a n2 n3 n4 h
  simp only [fitsN, show fitT 18 = (0, 0, 65535, 255, 1) from rfl] at h
  show (layP 129 (layP 1026 (layP 2052 (layP 0 (initB 18) a) (u64N (n2 : Int))) (u64N (n3 : Int))) (u64N (n4 : Int))) = _
  rw [u64N_nat n2 (by omega), u64N_nat n3 (by omega), u64N_nat n4 (by omega)]
  simp only [layP_zero]
  have L0 : (initB 18).length = 6 := rfl
  rw [layP_big 2052 3 2 (by decide) (by decide) (by decide) (by decide) (by decide) (initB 18) n2 (by rw [L0]; omega)]
  have L1 : (over (initB 18) 3 (putBe n2 2)).length = 6 := rfl
  rw [layP_one 1026 2 0 8 (by decide) (by decide) (by decide) (by decide) (by decide) (over (initB 18) 3 (putBe n2 2)) n3 (by rw [L1]; omega)]
  have L2 : ((over (initB 18) 3 (putBe n2 2)).set 2 (bof (setN (Bn (over (initB 18) 3 (putBe n2 2)) 2) 0 8 n3))).length = 6 := rfl
  rw [layP_one 129 1 0 1 (by decide) (by decide) (by decide) (by decide) (by decide) ((over (initB 18) 3 (putBe n2 2)).set 2 (bof (setN (Bn (over (initB 18) 3 (putBe n2 2)) 2) 0 8 n3))) n4 (by rw [L2]; omega)]
  have hz : Bn (over (initB 18) 3 (putBe n2 2)) 2 = 0 := rfl
  rw [hz]
  have e3 : bof (setN 0 0 8 n3) = bof n3 := by
    rw [setN_zero]
    apply UInt8.toNat_inj.1
    rw [bof_toNat, bof_toNat]
    omega
  rw [e3]
  have hy : Bn ((over (initB 18) 3 (putBe n2 2)).set 2 (bof n3)) 1 = 0 := rfl
  rw [hy, setN_zero]
  rfl
theorem lay_21 : LayS 21 := by
  intro a n2 n3 n4 h
  simp only [fitsN, show fitT 21 = (0, 0, 255, 0, 0) from rfl] at h
  show (layP 0 (layP 0 (layP 1028 (layP 0 (layP 129 (layP 193 (initB 21) 1) 0) a) (u64N (n2 : Int))) (u64N (n3 : Int))) (u64N (n4 : Int))) = _
  rw [u64N_nat n2 (by omega), u64N_nat n3 (by omega), u64N_nat n4 (by omega)]
  simp only [layP_zero]
  have L0 : (initB 21).length = 6 := rfl
  rw [layP_one 193 1 4 1 (by decide) (by decide) (by decide) (by decide) (by decide) (initB 21) 1 (by rw [L0]; omega)]
  have L1 : ((initB 21).set 1 (bof (setN (Bn (initB 21) 1) 4 1 1))).length = 6 := rfl
  rw [layP_one 129 1 0 1 (by decide) (by decide) (by decide) (by decide) (by decide) ((initB 21).set 1 (bof (setN (Bn (initB 21) 1) 4 1 1))) 0 (by rw [L1]; omega)]
  have L2 : (((initB 21).set 1 (bof (setN (Bn (initB 21) 1) 4 1 1))).set 1 (bof (setN (Bn ((initB 21).set 1 (bof (setN (Bn (initB 21) 1) 4 1 1))) 1) 0 1 0))).length = 6 := rfl
  have em : (((initB 21).set 1 (bof (setN (Bn (initB 21) 1) 4 1 1))).set 1 (bof (setN (Bn ((initB 21).set 1 (bof (setN (Bn (initB 21) 1) 4 1 1))) 1) 0 1 0))) = ((initB 21).set 1 16) := by decide
  rw [em]
  have L3 : ((initB 21).set 1 16).length = 6 := rfl
  rw [layP_one 1028 4 0 8 (by decide) (by decide) (by decide) (by decide) (by decide) ((initB 21).set 1 16) n2 (by rw [L3]; omega)]
  have L4 : (((initB 21).set 1 16).set 4 (bof (setN (Bn ((initB 21).set 1 16) 4) 0 8 n2))).length = 6 := rfl
  have hz : Bn ((initB 21).set 1 16) 4 = 0 := rfl
  rw [hz]
  have e1 : bof (setN 0 0 8 n2) = bof n2 := by
    rw [setN_zero]
    apply UInt8.toNat_inj.1
    rw [bof_toNat, bof_toNat]
    omega
  rw [e1]
  rfl
theorem lay_85 : LayS 85 := by
  intro a n2 n3 n4 h
  simp only [fitsN, show fitT 85 = (0, 0, 65535, 0, 0) from rfl] at h
  show (layP 0 (layP 0 (layP 2056 (layP 0 (layP 129 (layP 193 (initB 85) 1) 0) a) (u64N (n2 : Int))) (u64N (n3 : Int))) (u64N (n4 : Int))) = _
  rw [u64N_nat n2 (by omega), u64N_nat n3 (by omega), u64N_nat n4 (by omega)]
  simp only [layP_zero]
  have L0 : (initB 85).length = 10 := rfl
  rw [layP_one 193 1 4 1 (by decide) (by decide) (by decide) (by decide) (by decide) (initB 85) 1 (by rw [L0]; omega)]
  have L1 : ((initB 85).set 1 (bof (setN (Bn (initB 85) 1) 4 1 1))).length = 10 := rfl
  rw [layP_one 129 1 0 1 (by decide) (by decide) (by decide) (by decide) (by decide) ((initB 85).set 1 (bof (setN (Bn (initB 85) 1) 4 1 1))) 0 (by rw [L1]; omega)]
  have L2 : (((initB 85).set 1 (bof (setN (Bn (initB 85) 1) 4 1 1))).set 1 (bof (setN (Bn ((initB 85).set 1 (bof (setN (Bn (initB 85) 1) 4 1 1))) 1) 0 1 0))).length = 10 := rfl
  have em : (((initB 85).set 1 (bof (setN (Bn (initB 85) 1) 4 1 1))).set 1 (bof (setN (Bn ((initB 85).set 1 (bof (setN (Bn (initB 85) 1) 4 1 1))) 1) 0 1 0))) = ((initB 85).set 1 16) := by decide
  rw [em]
  have L3 : ((initB 85).set 1 16).length = 10 := rfl
  rw [layP_big 2056 7 2 (by decide) (by decide) (by decide) (by decide) (by decide) ((initB 85).set 1 16) n2 (by rw [L3]; omega)]
  have L4 : (over ((initB 85).set 1 16) 7 (putBe n2 2)).length = 10 := rfl
  rfl
theorem lay_26 : LayS 26 := by
  intro a n2 n3 n4 h
  simp only [fitsN, show fitT 26 = (0, 0, 255, 63, 3) from rfl] at h
  show (layP 354 (layP 770 (layP 1028 (layP 0 (layP 1027 (initB 26) 0) a) (u64N (n2 : Int))) (u64N (n3 : Int))) (u64N (n4 : Int))) = _
  rw [u64N_nat n2 (by omega), u64N_nat n3 (by omega), u64N_nat n4 (by omega)]
  simp only [layP_zero]
  have L0 : (initB 26).length = 6 := rfl
  rw [layP_one 1027 3 0 8 (by decide) (by decide) (by decide) (by decide) (by decide) (initB 26) 0 (by rw [L0]; omega)]
  have L1 : ((initB 26).set 3 (bof (setN (Bn (initB 26) 3) 0 8 0))).length = 6 := rfl
  have em : ((initB 26).set 3 (bof (setN (Bn (initB 26) 3) 0 8 0))) = (initB 26) := by decide
  rw [em]
  have L2 : (initB 26).length = 6 := rfl
  rw [layP_one 1028 4 0 8 (by decide) (by decide) (by decide) (by decide) (by decide) (initB 26) n2 (by rw [L2]; omega)]
  have L3 : ((initB 26).set 4 (bof (setN (Bn (initB 26) 4) 0 8 n2))).length = 6 := rfl
  rw [layP_one 770 2 0 6 (by decide) (by decide) (by decide) (by decide) (by decide) ((initB 26).set 4 (bof (setN (Bn (initB 26) 4) 0 8 n2))) n3 (by rw [L3]; omega)]
  have L4 : (((initB 26).set 4 (bof (setN (Bn (initB 26) 4) 0 8 n2))).set 2 (bof (setN (Bn ((initB 26).set 4 (bof (setN (Bn (initB 26) 4) 0 8 n2))) 2) 0 6 n3))).length = 6 := rfl
  rw [layP_one 354 2 6 2 (by decide) (by decide) (by decide) (by decide) (by decide) (((initB 26).set 4 (bof (setN (Bn (initB 26) 4) 0 8 n2))).set 2 (bof (setN (Bn ((initB 26).set 4 (bof (setN (Bn (initB 26) 4) 0 8 n2))) 2) 0 6 n3))) n4 (by rw [L4]; omega)]
  have hz : Bn (initB 26) 4 = 0 := rfl
  rw [hz]
  have e1 : bof (setN 0 0 8 n2) = bof n2 := by
    rw [setN_zero]
    apply UInt8.toNat_inj.1
    rw [bof_toNat, bof_toNat]
    omega
  rw [e1]
  have hy : Bn ((initB 26).set 4 (bof n2)) 2 = 0 := rfl
  rw [hy]
  have e3 : bof (setN 0 0 6 n3) = bof n3 := by
    rw [setN_zero]
    apply UInt8.toNat_inj.1
    rw [bof_toNat, bof_toNat]
    omega
  rw [e3]
  have hx : Bn (((initB 26).set 4 (bof n2)).set 2 (bof n3)) 2 = (bof n3).toNat := rfl
  have hw : (bof n3).toNat = n3 := by rw [bof_toNat]; omega
  have e5 : setN n3 6 2 n4 = n3 % 64 + n4 * 64 := by
    simp only [setN]
    omega
  rw [hx, hw, e5]
  rfl
theorem lay_90 : LayS 90 := by
  intro a n2 n3 n4 h
  simp only [fitsN, show fitT 90 = (0, 0, 65535, 63, 3) from rfl] at h
  show (layP 354 (layP 770 (layP 2056 (layP 0 (layP 1027 (initB 90) 0) a) (u64N (n2 : Int))) (u64N (n3 : Int))) (u64N (n4 : Int))) = _
  rw [u64N_nat n2 (by omega), u64N_nat n3 (by omega), u64N_nat n4 (by omega)]
  simp only [layP_zero]
  have L0 : (initB 90).length = 10 := rfl
  rw [layP_one 1027 3 0 8 (by decide) (by decide) (by decide) (by decide) (by decide) (initB 90) 0 (by rw [L0]; omega)]
  have L1 : ((initB 90).set 3 (bof (setN (Bn (initB 90) 3) 0 8 0))).length = 10 := rfl
  have em : ((initB 90).set 3 (bof (setN (Bn (initB 90) 3) 0 8 0))) = (initB 90) := by decide
  rw [em]
  have L2 : (initB 90).length = 10 := rfl
  rw [layP_big 2056 7 2 (by decide) (by decide) (by decide) (by decide) (by decide) (initB 90) n2 (by rw [L2]; omega)]
  have L3 : (over (initB 90) 7 (putBe n2 2)).length = 10 := rfl
  rw [layP_one 770 2 0 6 (by decide) (by decide) (by decide) (by decide) (by decide) (over (initB 90) 7 (putBe n2 2)) n3 (by rw [L3]; omega)]
  have L4 : ((over (initB 90) 7 (putBe n2 2)).set 2 (bof (setN (Bn (over (initB 90) 7 (putBe n2 2)) 2) 0 6 n3))).length = 10 := rfl
  rw [layP_one 354 2 6 2 (by decide) (by decide) (by decide) (by decide) (by decide) ((over (initB 90) 7 (putBe n2 2)).set 2 (bof (setN (Bn (over (initB 90) 7 (putBe n2 2)) 2) 0 6 n3))) n4 (by rw [L4]; omega)]
  have hy : Bn (over (initB 90) 7 (putBe n2 2)) 2 = 0 := rfl
  rw [hy]
  have e3 : bof (setN 0 0 6 n3) = bof n3 := by
    rw [setN_zero]
    apply UInt8.toNat_inj.1
    rw [bof_toNat, bof_toNat]
    omega
  rw [e3]
  have hx : Bn ((over (initB 90) 7 (putBe n2 2)).set 2 (bof n3)) 2 = (bof n3).toNat := rfl
  have hw : (bof n3).toNat = n3 := by rw [bof_toNat]; omega
  have e5 : setN n3 6 2 n4 = n3 % 64 + n4 * 64 := by
    simp only [setN]
    omega
  rw [hx, hw, e5]
  rfl
theorem lay_27 : LayS 27 := by
  intro a n2 n3 n4 h
  simp only [fitsN, show fitT 27 = (0, 0, 0, 0, 3) from rfl] at h
  show (layP 260 (layP 0 (layP 0 (layP 0 (layP 580 (initB 27) 0) a) (u64N (n2 : Int))) (u64N (n3 : Int))) (u64N (n4 : Int))) = _
  rw [u64N_nat n2 (by omega), u64N_nat n3 (by omega), u64N_nat n4 (by omega)]
  simp only [layP_zero]
  have L0 : (initB 27).length = 6 := rfl
  rw [layP_one 580 4 4 4 (by decide) (by decide) (by decide) (by decide) (by decide) (initB 27) 0 (by rw [L0]; omega)]
  have L1 : ((initB 27).set 4 (bof (setN (Bn (initB 27) 4) 4 4 0))).length = 6 := rfl
  have em : ((initB 27).set 4 (bof (setN (Bn (initB 27) 4) 4 4 0))) = (initB 27) := by decide
  rw [em]
  have L2 : (initB 27).length = 6 := rfl
  rw [layP_one 260 4 0 2 (by decide) (by decide) (by decide) (by decide) (by decide) (initB 27) n4 (by rw [L2]; omega)]
  have hz : Bn (initB 27) 4 = 0 := rfl
  rw [hz]
  have e1 : bof (setN 0 0 2 n4) = bof n4 := by
    rw [setN_zero]
    apply UInt8.toNat_inj.1
    rw [bof_toNat, bof_toNat]
    omega
  rw [e1]
  rfl
theorem lay_30 : LayS 30 := by
  intro a n2 n3 n4 h
  simp only [fitsN, show fitT 30 = (0, 0, 0, 0, 1) from rfl] at h
  show (layP 260 (layP 0 (layP 0 (layP 0 (layP 260 (initB 30) 0) a) (u64N (n2 : Int))) (u64N (n3 : Int))) (u64N (n4 : Int))) = _
  rw [u64N_nat n2 (by omega), u64N_nat n3 (by omega), u64N_nat n4 (by omega)]
  simp only [layP_zero]
  have L0 : (initB 30).length = 6 := rfl
  rw [layP_one 260 4 0 2 (by decide) (by decide) (by decide) (by decide) (by decide) (initB 30) 0 (by rw [L0]; omega)]
  have L1 : ((initB 30).set 4 (bof (setN (Bn (initB 30) 4) 0 2 0))).length = 6 := rfl
  have em : ((initB 30).set 4 (bof (setN (Bn (initB 30) 4) 0 2 0))) = (initB 30) := by decide
  rw [em]
  have L2 : (initB 30).length = 6 := rfl
  rw [layP_one 260 4 0 2 (by decide) (by decide) (by decide) (by decide) (by decide) (initB 30) n4 (by rw [L2]; omega)]
  have hz : Bn (initB 30) 4 = 0 := rfl
  rw [hz]
  have e1 : bof (setN 0 0 2 n4) = bof n4 := by
    rw [setN_zero]
    apply UInt8.toNat_inj.1
    rw [bof_toNat, bof_toNat]
    omega
  rw [e1]
  rfl
theorem lay_37 : LayS 37 := by
  intro a n2 n3 n4 h
  simp only [fitsN, show fitT 37 = (0, 0, 0, 0, 0) from rfl] at h
  show (layP 0 (layP 0 (layP 0 (layP 0 (layP 136 (layP 4101 (initB 37) 0) 0) a) (u64N (n2 : Int))) (u64N (n3 : Int))) (u64N (n4 : Int))) = _
  rw [u64N_nat n2 (by omega), u64N_nat n3 (by omega), u64N_nat n4 (by omega)]
  simp only [layP_zero]
  have L0 : (initB 37).length = 10 := rfl
  rw [layP_big 4101 2 4 (by decide) (by decide) (by decide) (by decide) (by decide) (initB 37) 0 (by rw [L0]; omega)]
  have L1 : (over (initB 37) 2 (putBe 0 4)).length = 10 := rfl
  rw [layP_one 136 8 0 1 (by decide) (by decide) (by decide) (by decide) (by decide) (over (initB 37) 2 (putBe 0 4)) 0 (by rw [L1]; omega)]
  have L2 : ((over (initB 37) 2 (putBe 0 4)).set 8 (bof (setN (Bn (over (initB 37) 2 (putBe 0 4)) 8) 0 1 0))).length = 10 := rfl
  have em : ((over (initB 37) 2 (putBe 0 4)).set 8 (bof (setN (Bn (over (initB 37) 2 (putBe 0 4)) 8) 0 1 0))) = (initB 37) := by decide
  rw [em]
  have L3 : (initB 37).length = 10 := rfl
  rfl
theorem lay_158 : LayS 158 := by
  intro a n2 n3 n4 h
  simp only [fitsN, show fitT 158 = (0, 0, 4294967295, 0, 0) from rfl] at h
  show (layP 0 (layP 0 (layP 4109 (layP 0 (layP 641 (initB 158) 16) a) (u64N (n2 : Int))) (u64N (n3 : Int))) (u64N (n4 : Int))) = _
  rw [u64N_nat n2 (by omega), u64N_nat n3 (by omega), u64N_nat n4 (by omega)]
  simp only [layP_zero]
  have L0 : (initB 158).length = 16 := rfl
  rw [layP_one 641 1 0 5 (by decide) (by decide) (by decide) (by decide) (by decide) (initB 158) 16 (by rw [L0]; omega)]
  have L1 : ((initB 158).set 1 (bof (setN (Bn (initB 158) 1) 0 5 16))).length = 16 := rfl
  have em : ((initB 158).set 1 (bof (setN (Bn (initB 158) 1) 0 5 16))) = ((initB 158).set 1 16) := by decide
  rw [em]
  have L2 : ((initB 158).set 1 16).length = 16 := rfl
  rw [layP_big 4109 10 4 (by decide) (by decide) (by decide) (by decide) (by decide) ((initB 158).set 1 16) n2 (by rw [L2]; omega)]
  have L3 : (over ((initB 158).set 1 16) 10 (putBe n2 4)).length = 16 := rfl
  rfl
theorem lay_160 : LayS 160 := by
  intro a n2 n3 n4 h
  simp only [fitsN, show fitT 160 = (0, 16, 4294967295, 0, 0) from rfl] at h
  show (layP 0 (layP 0 (layP 4105 (layP 0 (layP 4105 (layP 1026 (initB 160) 0) 16) a) (u64N (n2 : Int))) (u64N (n3 : Int))) (u64N (n4 : Int))) = _
  rw [u64N_nat n2 (by omega), u64N_nat n3 (by omega), u64N_nat n4 (by omega)]
  simp only [layP_zero]
  have L0 : (initB 160).length = 12 := rfl
  rw [layP_one 1026 2 0 8 (by decide) (by decide) (by decide) (by decide) (by decide) (initB 160) 0 (by rw [L0]; omega)]
  have L1 : ((initB 160).set 2 (bof (setN (Bn (initB 160) 2) 0 8 0))).length = 12 := rfl
  rw [layP_big 4105 6 4 (by decide) (by decide) (by decide) (by decide) (by decide) ((initB 160).set 2 (bof (setN (Bn (initB 160) 2) 0 8 0))) 16 (by rw [L1]; omega)]
  have L2 : (over ((initB 160).set 2 (bof (setN (Bn (initB 160) 2) 0 8 0))) 6 (putBe 16 4)).length = 12 := rfl
  have em : (over ((initB 160).set 2 (bof (setN (Bn (initB 160) 2) 0 8 0))) 6 (putBe 16 4)) = (over (initB 160) 6 (putBe 16 4)) := by decide
  rw [em]
  have L3 : (over (initB 160) 6 (putBe 16 4)).length = 12 := rfl
  rw [layP_big 4105 6 4 (by decide) (by decide) (by decide) (by decide) (by decide) (over (initB 160) 6 (putBe 16 4)) n2 (by rw [L3]; omega)]
  have L4 : (over (over (initB 160) 6 (putBe 16 4)) 6 (putBe n2 4)).length = 12 := rfl
  rfl
theorem lay_0 : LayS 0 := by
  intro a n2 n3 n4 h
  simp only [fitsN, show fitT 0 = (0, 0, 0, 0, 0) from rfl] at h
  show (layP 0 (layP 0 (layP 0 (layP 0 (initB 0) a) (u64N (n2 : Int))) (u64N (n3 : Int))) (u64N (n4 : Int))) = _
  rw [u64N_nat n2 (by omega), u64N_nat n3 (by omega), u64N_nat n4 (by omega)]
  simp only [layP_zero]
  have L0 : (initB 0).length = 6 := rfl
  rfl
end Go.Proofs.Ytccdgpadjfjoeaa
