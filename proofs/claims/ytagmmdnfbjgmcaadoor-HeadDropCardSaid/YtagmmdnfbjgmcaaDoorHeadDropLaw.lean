/-
  HeadDrop of layer 13 returns true for every input and leaves its arguments as they were: what was dropped is not there; all else is, in order; dropped one by one, in whatever order, it is as at once. Conditions: the two tables of unicode/utf8 lie as their texts lay them (listed by the card), internal/bytealg.MaxLen holds any int.
-/
import Derived.Test.YtagmmdnfbjgmcaaDoorCards
import Derived.Test.YtagmmdnfbjgmcaaDoorTie
import Derived.WalkKit
import Derived.ProofKit
import Derived.OpenShut
import Derived.ShutString
import Derived.ChangeOld
import Derived.Below
import Derived.Test.YtagmmdnfbjgmcaaDoorHdLaws
import Derived.Test.YtagmmdnfbjgmcaaDoorLaid
namespace Go.Proofs.YtagmmdnfbjgmcaaDoor.headDrop
open Go.ChangeShapes Go.WideShapes Go.ChangeAt Go.RowKit
open Go.ChangeMaps (open_string shut_string)
open Go.Shelf
open Go.Proofs.YtagmmdnfbjgmcaaDoor.Head
set_option linter.unusedSimpArgs false
set_option linter.unusedVariables false

theorem own : ownKnob Tryd.prog.godebug = none := by kernel_rfl
theorem laidOut : laidOutB Tryd.prog = true := by kernel_rfl

theorem mem_one (a : ByteArray) (h : a.size ≤ 1000000) : ∀ t ∈ [a.data.toList], t.length ≤ 1000000 := fun t ht => by
  obtain rfl : t = a.data.toList := by simpa using ht
  exact h
theorem mem_two (a b : ByteArray) (h : a.size ≤ 1000000) (k : b.size ≤ 1000000) : ∀ t ∈ [a.data.toList, b.data.toList], t.length ≤ 1000000 := fun t ht => by
  rcases List.mem_cons.1 ht with rfl | ht
  · exact h
  · exact mem_one b k t ht
set_option maxRecDepth 100000
set_option maxHeartbeats 16000000 in
theorem walk (v0 : Value) (l0 : List F) (a1 : ByteArray) (a2 : ByteArray) (a3 : ByteArray) (w1 : a1.size ≤ maxLen) (w2 : a2.size ≤ maxLen) (w3 : a3.size ≤ maxLen) (m : Int) (w : World) (hm : Path.MaxAt m w) (w0 : Flds w v0 l0) :
    Calls Tryd.prog 5 #[v0, .string a1, .string a2, .string a3] w fun e w' => e = .returned (.bool true) ∧ Below w.heap.size w w' := by
  have HM0 := Lib.hid hm
  have HF0_0 := Lib.hid w0
  obtain ⟨ax0, cx0, rfl, -⟩ := w0
  clear hm
  go_enter Tryd.func5, Tryd.ntmps5
  go_wp2_with fail
  refine (awake_calls m w HM0.out).mono ?_
  rintro e X1 ⟨rfl, hB⟩
  have HB1 := Lib.hid (hB)
  have HM1 := Lib.hid (HM0.out.later hB)
  have HF0_1 := Lib.hid (HF0_0.out.later hB)
  clear HM0 HF0_0
  clear hB
  go_wp2_with fail
  refine (few_any _ l0 X1 HF0_1.out).mono ?_
  rintro e X' ⟨rfl, rfl⟩
  obtain ⟨b0, hb0⟩ : ∃ b, fewF l0 = b := ⟨_, rfl⟩
  rw [hb0]
  cases b0
  rotate_left
  rotate_left
  · go_wp2
    go_ret
    exact ⟨rfl, HB1.out⟩
  obtain ⟨hl0, hs0⟩ := few_of hb0
  have HS0 := Lib.hid (few_big hs0)
  clear hb0 hs0
  rcases Nat.lt_or_ge 300 a1.size with h1 | h1
  · have q : decide ((300 : Int) < (a1.size : Int)) = true := decide_eq_true (by omega)
    go_wp2
    go_ret
    exact ⟨rfl, HB1.out⟩
  have q1 : decide ((300 : Int) < (a1.size : Int)) = false := decide_eq_false (by omega)
  rcases Nat.lt_or_ge 300 a2.size with h2 | h2
  · have q : decide ((300 : Int) < (a2.size : Int)) = true := decide_eq_true (by omega)
    go_wp2
    go_ret
    exact ⟨rfl, HB1.out⟩
  have q2 : decide ((300 : Int) < (a2.size : Int)) = false := decide_eq_false (by omega)
  rcases Nat.lt_or_ge 300 a3.size with h3 | h3
  · have q : decide ((300 : Int) < (a3.size : Int)) = true := decide_eq_true (by omega)
    go_wp2
    go_ret
    exact ⟨rfl, HB1.out⟩
  have q3 : decide ((300 : Int) < (a3.size : Int)) = false := decide_eq_false (by omega)
  obtain ⟨x, hx⟩ : ∃ x, dropL l0 [a1.data.toList, a2.data.toList] = x := ⟨_, rfl⟩
  have hxl : x.length ≤ l0.length := by rw [← hx]; exact drop_len _ _
  have HX := Lib.hid (show ∀ f ∈ x, f.1.length ≤ 1000000 ∧ f.2.length ≤ 1000000 from fun f hf => by
    rw [← hx] at hf
    exact HS0.out f (drop_mem _ _ f hf))
  have hga : allL x a1.data.toList = [] := by rw [← hx]; exact all_gone _ _ _ fun f h => by rw [goes_two, h]; rfl
  have hgb : allL x a2.data.toList = [] := by rw [← hx]; exact all_gone _ _ _ fun f h => by rw [goes_two, h, Bool.or_true]
  have HA := Lib.hid (show getB x a1.data.toList = false from by unfold getB; rw [hga]; rfl)
  have HB_ := Lib.hid (show getB x a2.data.toList = false from by unfold getB; rw [hgb]; rfl)
  have HO := Lib.hid (show Ascii.lower a3.data.toList ≠ Ascii.lower a1.data.toList → Ascii.lower a3.data.toList ≠ Ascii.lower a2.data.toList → decide (allL x a3.data.toList = allL l0 a3.data.toList) = true from fun h1 h2 => by
    rw [← hx, all_drop l0 a3.data.toList [a1.data.toList, a2.data.toList] fun f hf => by rw [goes_two, goes_apart (fun e => h1 e.symm) f hf, goes_apart (fun e => h2 e.symm) f hf]; rfl]
    exact decide_eq_true rfl)
  have HD := Lib.hid (show dropL (dropL l0 [a2.data.toList]) [a1.data.toList] = x from by rw [← hx]; exact drop_drop _ _ _)
  have HDN := Lib.hid (drop_none l0)
  clear hga hgb
  go_wp2_with fail
  have hZ := (Below.refl X1.heap.size X1).alloc (Nat.le_refl _) (.cells #[.string a1, .string a2] 9)
  have cD := drop_any _ l0 (by omega) HS0.out _ [a1.data.toList, a2.data.toList] (by simp) (mem_two a1 a2 (by omega) (by omega)) _ (HF0_1.out.later hZ) (strs_two X1 a1 a2)
  rw [hx] at cD
  refine cD.mono ?_
  rintro e X2 ⟨vHX_, rfl, hD, hB0⟩
  have hB := Ascii.below2 hZ hB0
  have hsh := hD
  obtain ⟨ad1, cd1, rfl, -⟩ := hsh
  have HB2 := Lib.hid (Ascii.below2 HB1.out hB)
  have HM2 := Lib.hid (HM1.out.later hB)
  have HF0_2 := Lib.hid (HF0_1.out.later hB)
  have HX_2 := Lib.hid (hD)
  clear HB1 HM1 HF0_1
  clear hB hB0 hD cD hZ
  go_wp2_with fail
  have cG := get_any _ x (by omega) HX.out a1 (by omega) X2 HX_2.out
  rw [HA.out] at cG
  refine (cG).mono ?_
  rintro e X3 ⟨rfl, hB⟩
  have HB3 := Lib.hid (Ascii.below2 HB2.out hB)
  have HM3 := Lib.hid (HM2.out.later hB)
  have HF0_3 := Lib.hid (HF0_2.out.later hB)
  have HX_3 := Lib.hid (HX_2.out.later hB)
  clear HB2 HM2 HF0_2 HX_2
  clear hB 
  go_wp2_with fail
  have cG2 := get_any _ x (by omega) HX.out a2 (by omega) X3 HX_3.out
  rw [HB_.out] at cG2
  refine (cG2).mono ?_
  rintro e X4 ⟨rfl, hB⟩
  have HB4 := Lib.hid (Ascii.below2 HB3.out hB)
  have HM4 := Lib.hid (HM3.out.later hB)
  have HF0_4 := Lib.hid (HF0_3.out.later hB)
  have HX_4 := Lib.hid (HX_3.out.later hB)
  clear HB3 HM3 HF0_3 HX_3
  clear hB 
  go_wp2_with fail
  refine (all_any _ x (by omega) HX.out a3 (by omega) _ HX_4.out).mono ?_
  rintro e X5 ⟨vp, rfl, hP, hB⟩
  have HB5 := Lib.hid (Ascii.below2 HB4.out hB)
  have HM5 := Lib.hid (HM4.out.later hB)
  have HF0_5 := Lib.hid (HF0_4.out.later hB)
  have HX_5 := Lib.hid (HX_4.out.later hB)
  have HP_5 := Lib.hid (hP)
  clear HB4 HM4 HF0_4 HX_4
  clear hB hP
  go_wp2_with fail
  refine (all_any _ l0 (by omega) HS0.out a3 (by omega) _ HF0_5.out).mono ?_
  rintro e X6 ⟨vq, rfl, hQ, hB⟩
  have HB6 := Lib.hid (Ascii.below2 HB5.out hB)
  have HM6 := Lib.hid (HM5.out.later hB)
  have HF0_6 := Lib.hid (HF0_5.out.later hB)
  have HX_6 := Lib.hid (HX_5.out.later hB)
  have HP_6 := Lib.hid (HP_5.out.later hB)
  have HQ_6 := Lib.hid (hQ)
  clear HB5 HM5 HF0_5 HX_5 HP_5
  clear hB hQ
  go_wp2_with fail
  refine (Path.same_any _ _ _ _ _ HP_6.out HQ_6.out).mono ?_
  rintro e X7 ⟨rfl, hB⟩
  clear HP_6
  clear HQ_6
  have HB7 := Lib.hid (Ascii.below2 HB6.out hB)
  have HM7 := Lib.hid (HM6.out.later hB)
  have HF0_7 := Lib.hid (HF0_6.out.later hB)
  have HX_7 := Lib.hid (HX_6.out.later hB)
  clear HB6 HM6 HF0_6 HX_6
  clear hB 
  obtain ⟨r, hr⟩ : ∃ r, decide (allL x a3.data.toList = allL l0 a3.data.toList) = r := ⟨_, rfl⟩
  have HR := Lib.hid hr
  rw [hr]
  clear hr
  go_wp2_with fail
  refine (Ascii.same_calls a3 a1 w3 (by omega) w1 (by omega) _).mono ?_
  rintro e X8 ⟨rfl, hB⟩
  have HB8 := Lib.hid (Ascii.below2 HB7.out hB)
  have HM8 := Lib.hid (HM7.out.later hB)
  have HF0_8 := Lib.hid (HF0_7.out.later hB)
  have HX_8 := Lib.hid (HX_7.out.later hB)
  clear HB7 HM7 HF0_7 HX_7
  clear hB 
  obtain ⟨z, hz⟩ : ∃ z, (Ascii.lower a3.data.toList == Ascii.lower a1.data.toList) = z := ⟨_, rfl⟩
  rw [hz]
  have HZ := Lib.hid hz
  clear hz
  cases z
  rotate_left
  · go_wp2_with fail
    have hZ := (Below.refl X8.heap.size X8).alloc (Nat.le_refl _) (.cells #[.string a2] 9)
    have cD := drop_any _ l0 (by omega) HS0.out _ [a2.data.toList] (by simp) (mem_one a2 (by omega)) _ (HF0_8.out.later hZ) (strs_one X8 a2)
    refine cD.mono ?_
    rintro e X9 ⟨vHDB_, rfl, hD, hB0⟩
    have hB := Ascii.below2 hZ hB0
    have hsh := hD
    obtain ⟨ad8, cd8, rfl, -⟩ := hsh
    have HB9 := Lib.hid (Ascii.below2 HB8.out hB)
    have HM9 := Lib.hid (HM8.out.later hB)
    have HF0_9 := Lib.hid (HF0_8.out.later hB)
    have HX_9 := Lib.hid (HX_8.out.later hB)
    have HDB_9 := Lib.hid (hD)
    clear HB8 HM8 HF0_8 HX_8
    clear hB hB0 hD cD hZ
    go_wp2_with fail
    have hZ := (Below.refl X9.heap.size X9).alloc (Nat.le_refl _) (.cells #[.string a1] 9)
    have cD := drop_any _ (dropL l0 [a2.data.toList]) (Nat.le_trans (drop_len _ _) (by omega)) (fun f hf => HS0.out f (drop_mem _ _ f hf)) _ [a1.data.toList] (by simp) (mem_one a1 (by omega)) _ (HDB_9.out.later hZ) (strs_one X9 a1)
    rw [HD.out] at cD
    refine cD.mono ?_
    rintro e X10 ⟨vHDA_, rfl, hD, hB0⟩
    have hB := Ascii.below2 hZ hB0
    have hsh := hD
    obtain ⟨ad9, cd9, rfl, -⟩ := hsh
    have HB10 := Lib.hid (Ascii.below2 HB9.out hB)
    have HM10 := Lib.hid (HM9.out.later hB)
    have HF0_10 := Lib.hid (HF0_9.out.later hB)
    have HX_10 := Lib.hid (HX_9.out.later hB)
    have HDB_10 := Lib.hid (HDB_9.out.later hB)
    have HDA_10 := Lib.hid (hD)
    clear HB9 HM9 HF0_9 HX_9 HDB_9
    clear hB hB0 hD cD hZ
    go_wp2_with fail
    have cE := same_any _ _ x x X10 HDA_10.out HX_10.out
    rw [show decide (x = x) = true from decide_eq_true rfl] at cE
    refine (cE).mono ?_
    rintro e X11 ⟨rfl, hB⟩
    have HB11 := Lib.hid (Ascii.below2 HB10.out hB)
    have HM11 := Lib.hid (HM10.out.later hB)
    have HF0_11 := Lib.hid (HF0_10.out.later hB)
    have HX_11 := Lib.hid (HX_10.out.later hB)
    have HDB_11 := Lib.hid (HDB_10.out.later hB)
    have HDA_11 := Lib.hid (HDA_10.out.later hB)
    clear HB10 HM10 HF0_10 HX_10 HDB_10 HDA_10
    clear hB 
    go_wp2_with fail
    have cD := drop_any _ l0 (by omega) HS0.out _ [] (by simp) (by simp) _ HF0_11.out (Path.Strs.nil X11)
    rw [HDN.out] at cD
    refine cD.mono ?_
    rintro e X12 ⟨vHDN_, rfl, hD, hB0⟩
    have hB := hB0
    have hsh := hD
    obtain ⟨ad11, cd11, rfl, -⟩ := hsh
    have HB12 := Lib.hid (Ascii.below2 HB11.out hB)
    have HM12 := Lib.hid (HM11.out.later hB)
    have HF0_12 := Lib.hid (HF0_11.out.later hB)
    have HX_12 := Lib.hid (HX_11.out.later hB)
    have HDB_12 := Lib.hid (HDB_11.out.later hB)
    have HDA_12 := Lib.hid (HDA_11.out.later hB)
    have HDN_12 := Lib.hid (hD)
    clear HB11 HM11 HF0_11 HX_11 HDB_11 HDA_11
    clear hB hB0 hD cD
    go_wp2_with fail
    have cE2 := same_any _ _ l0 l0 X12 HDN_12.out HF0_12.out
    rw [show decide (l0 = l0) = true from decide_eq_true rfl] at cE2
    refine (cE2).mono ?_
    rintro e X13 ⟨rfl, hB⟩
    have HB13 := Lib.hid (Ascii.below2 HB12.out hB)
    have HM13 := Lib.hid (HM12.out.later hB)
    have HF0_13 := Lib.hid (HF0_12.out.later hB)
    have HX_13 := Lib.hid (HX_12.out.later hB)
    have HDB_13 := Lib.hid (HDB_12.out.later hB)
    have HDA_13 := Lib.hid (HDA_12.out.later hB)
    have HDN_13 := Lib.hid (HDN_12.out.later hB)
    clear HB12 HM12 HF0_12 HX_12 HDB_12 HDA_12 HDN_12
    clear hB 
    have qq : decide ((x.length : Int) ≤ (l0.length : Int)) = true := decide_eq_true (by omega)
    go_wp2
    go_ret
    exact ⟨rfl, HB13.out⟩
  go_wp2_with fail
  refine (Ascii.same_calls a3 a2 w3 (by omega) w2 (by omega) _).mono ?_
  rintro e X9 ⟨rfl, hB⟩
  have HB9 := Lib.hid (Ascii.below2 HB8.out hB)
  have HM9 := Lib.hid (HM8.out.later hB)
  have HF0_9 := Lib.hid (HF0_8.out.later hB)
  have HX_9 := Lib.hid (HX_8.out.later hB)
  clear HB8 HM8 HF0_8 HX_8
  clear hB 
  obtain ⟨y, hy⟩ : ∃ y, (Ascii.lower a3.data.toList == Ascii.lower a2.data.toList) = y := ⟨_, rfl⟩
  rw [hy]
  have hq : y = false → r = true := fun h => by rw [← HR.out]; exact HO.out (by simpa using HZ.out) (by rw [h] at hy; simpa using hy)
  clear hy
  cases y
  rotate_left
  · clear hq
    go_wp2_with fail
    have hZ := (Below.refl X9.heap.size X9).alloc (Nat.le_refl _) (.cells #[.string a2] 9)
    have cD := drop_any _ l0 (by omega) HS0.out _ [a2.data.toList] (by simp) (mem_one a2 (by omega)) _ (HF0_9.out.later hZ) (strs_one X9 a2)
    refine cD.mono ?_
    rintro e X10 ⟨vHDB_, rfl, hD, hB0⟩
    have hB := Ascii.below2 hZ hB0
    have hsh := hD
    obtain ⟨ad9, cd9, rfl, -⟩ := hsh
    have HB10 := Lib.hid (Ascii.below2 HB9.out hB)
    have HM10 := Lib.hid (HM9.out.later hB)
    have HF0_10 := Lib.hid (HF0_9.out.later hB)
    have HX_10 := Lib.hid (HX_9.out.later hB)
    have HDB_10 := Lib.hid (hD)
    clear HB9 HM9 HF0_9 HX_9
    clear hB hB0 hD cD hZ
    go_wp2_with fail
    have hZ := (Below.refl X10.heap.size X10).alloc (Nat.le_refl _) (.cells #[.string a1] 9)
    have cD := drop_any _ (dropL l0 [a2.data.toList]) (Nat.le_trans (drop_len _ _) (by omega)) (fun f hf => HS0.out f (drop_mem _ _ f hf)) _ [a1.data.toList] (by simp) (mem_one a1 (by omega)) _ (HDB_10.out.later hZ) (strs_one X10 a1)
    rw [HD.out] at cD
    refine cD.mono ?_
    rintro e X11 ⟨vHDA_, rfl, hD, hB0⟩
    have hB := Ascii.below2 hZ hB0
    have hsh := hD
    obtain ⟨ad10, cd10, rfl, -⟩ := hsh
    have HB11 := Lib.hid (Ascii.below2 HB10.out hB)
    have HM11 := Lib.hid (HM10.out.later hB)
    have HF0_11 := Lib.hid (HF0_10.out.later hB)
    have HX_11 := Lib.hid (HX_10.out.later hB)
    have HDB_11 := Lib.hid (HDB_10.out.later hB)
    have HDA_11 := Lib.hid (hD)
    clear HB10 HM10 HF0_10 HX_10 HDB_10
    clear hB hB0 hD cD hZ
    go_wp2_with fail
    have cE := same_any _ _ x x X11 HDA_11.out HX_11.out
    rw [show decide (x = x) = true from decide_eq_true rfl] at cE
    refine (cE).mono ?_
    rintro e X12 ⟨rfl, hB⟩
    have HB12 := Lib.hid (Ascii.below2 HB11.out hB)
    have HM12 := Lib.hid (HM11.out.later hB)
    have HF0_12 := Lib.hid (HF0_11.out.later hB)
    have HX_12 := Lib.hid (HX_11.out.later hB)
    have HDB_12 := Lib.hid (HDB_11.out.later hB)
    have HDA_12 := Lib.hid (HDA_11.out.later hB)
    clear HB11 HM11 HF0_11 HX_11 HDB_11 HDA_11
    clear hB 
    go_wp2_with fail
    have cD := drop_any _ l0 (by omega) HS0.out _ [] (by simp) (by simp) _ HF0_12.out (Path.Strs.nil X12)
    rw [HDN.out] at cD
    refine cD.mono ?_
    rintro e X13 ⟨vHDN_, rfl, hD, hB0⟩
    have hB := hB0
    have hsh := hD
    obtain ⟨ad12, cd12, rfl, -⟩ := hsh
    have HB13 := Lib.hid (Ascii.below2 HB12.out hB)
    have HM13 := Lib.hid (HM12.out.later hB)
    have HF0_13 := Lib.hid (HF0_12.out.later hB)
    have HX_13 := Lib.hid (HX_12.out.later hB)
    have HDB_13 := Lib.hid (HDB_12.out.later hB)
    have HDA_13 := Lib.hid (HDA_12.out.later hB)
    have HDN_13 := Lib.hid (hD)
    clear HB12 HM12 HF0_12 HX_12 HDB_12 HDA_12
    clear hB hB0 hD cD
    go_wp2_with fail
    have cE2 := same_any _ _ l0 l0 X13 HDN_13.out HF0_13.out
    rw [show decide (l0 = l0) = true from decide_eq_true rfl] at cE2
    refine (cE2).mono ?_
    rintro e X14 ⟨rfl, hB⟩
    have HB14 := Lib.hid (Ascii.below2 HB13.out hB)
    have HM14 := Lib.hid (HM13.out.later hB)
    have HF0_14 := Lib.hid (HF0_13.out.later hB)
    have HX_14 := Lib.hid (HX_13.out.later hB)
    have HDB_14 := Lib.hid (HDB_13.out.later hB)
    have HDA_14 := Lib.hid (HDA_13.out.later hB)
    have HDN_14 := Lib.hid (HDN_13.out.later hB)
    clear HB13 HM13 HF0_13 HX_13 HDB_13 HDA_13 HDN_13
    clear hB 
    have qq : decide ((x.length : Int) ≤ (l0.length : Int)) = true := decide_eq_true (by omega)
    go_wp2
    go_ret
    exact ⟨rfl, HB14.out⟩
  obtain rfl := hq rfl
  clear hq
  go_wp2_with fail
  have hZ := (Below.refl X9.heap.size X9).alloc (Nat.le_refl _) (.cells #[.string a2] 9)
  have cD := drop_any _ l0 (by omega) HS0.out _ [a2.data.toList] (by simp) (mem_one a2 (by omega)) _ (HF0_9.out.later hZ) (strs_one X9 a2)
  refine cD.mono ?_
  rintro e X10 ⟨vHDB_, rfl, hD, hB0⟩
  have hB := Ascii.below2 hZ hB0
  have hsh := hD
  obtain ⟨ad9, cd9, rfl, -⟩ := hsh
  have HB10 := Lib.hid (Ascii.below2 HB9.out hB)
  have HM10 := Lib.hid (HM9.out.later hB)
  have HF0_10 := Lib.hid (HF0_9.out.later hB)
  have HX_10 := Lib.hid (HX_9.out.later hB)
  have HDB_10 := Lib.hid (hD)
  clear HB9 HM9 HF0_9 HX_9
  clear hB hB0 hD cD hZ
  go_wp2_with fail
  have hZ := (Below.refl X10.heap.size X10).alloc (Nat.le_refl _) (.cells #[.string a1] 9)
  have cD := drop_any _ (dropL l0 [a2.data.toList]) (Nat.le_trans (drop_len _ _) (by omega)) (fun f hf => HS0.out f (drop_mem _ _ f hf)) _ [a1.data.toList] (by simp) (mem_one a1 (by omega)) _ (HDB_10.out.later hZ) (strs_one X10 a1)
  rw [HD.out] at cD
  refine cD.mono ?_
  rintro e X11 ⟨vHDA_, rfl, hD, hB0⟩
  have hB := Ascii.below2 hZ hB0
  have hsh := hD
  obtain ⟨ad10, cd10, rfl, -⟩ := hsh
  have HB11 := Lib.hid (Ascii.below2 HB10.out hB)
  have HM11 := Lib.hid (HM10.out.later hB)
  have HF0_11 := Lib.hid (HF0_10.out.later hB)
  have HX_11 := Lib.hid (HX_10.out.later hB)
  have HDB_11 := Lib.hid (HDB_10.out.later hB)
  have HDA_11 := Lib.hid (hD)
  clear HB10 HM10 HF0_10 HX_10 HDB_10
  clear hB hB0 hD cD hZ
  go_wp2_with fail
  have cE := same_any _ _ x x X11 HDA_11.out HX_11.out
  rw [show decide (x = x) = true from decide_eq_true rfl] at cE
  refine (cE).mono ?_
  rintro e X12 ⟨rfl, hB⟩
  have HB12 := Lib.hid (Ascii.below2 HB11.out hB)
  have HM12 := Lib.hid (HM11.out.later hB)
  have HF0_12 := Lib.hid (HF0_11.out.later hB)
  have HX_12 := Lib.hid (HX_11.out.later hB)
  have HDB_12 := Lib.hid (HDB_11.out.later hB)
  have HDA_12 := Lib.hid (HDA_11.out.later hB)
  clear HB11 HM11 HF0_11 HX_11 HDB_11 HDA_11
  clear hB 
  go_wp2_with fail
  have cD := drop_any _ l0 (by omega) HS0.out _ [] (by simp) (by simp) _ HF0_12.out (Path.Strs.nil X12)
  rw [HDN.out] at cD
  refine cD.mono ?_
  rintro e X13 ⟨vHDN_, rfl, hD, hB0⟩
  have hB := hB0
  have hsh := hD
  obtain ⟨ad12, cd12, rfl, -⟩ := hsh
  have HB13 := Lib.hid (Ascii.below2 HB12.out hB)
  have HM13 := Lib.hid (HM12.out.later hB)
  have HF0_13 := Lib.hid (HF0_12.out.later hB)
  have HX_13 := Lib.hid (HX_12.out.later hB)
  have HDB_13 := Lib.hid (HDB_12.out.later hB)
  have HDA_13 := Lib.hid (HDA_12.out.later hB)
  have HDN_13 := Lib.hid (hD)
  clear HB12 HM12 HF0_12 HX_12 HDB_12 HDA_12
  clear hB hB0 hD cD
  go_wp2_with fail
  have cE2 := same_any _ _ l0 l0 X13 HDN_13.out HF0_13.out
  rw [show decide (l0 = l0) = true from decide_eq_true rfl] at cE2
  refine (cE2).mono ?_
  rintro e X14 ⟨rfl, hB⟩
  have HB14 := Lib.hid (Ascii.below2 HB13.out hB)
  have HM14 := Lib.hid (HM13.out.later hB)
  have HF0_14 := Lib.hid (HF0_13.out.later hB)
  have HX_14 := Lib.hid (HX_13.out.later hB)
  have HDB_14 := Lib.hid (HDB_13.out.later hB)
  have HDA_14 := Lib.hid (HDA_13.out.later hB)
  have HDN_14 := Lib.hid (HDN_13.out.later hB)
  clear HB13 HM13 HF0_13 HX_13 HDB_13 HDA_13 HDN_13
  clear hB 
  have qq : decide ((x.length : Int) ≤ (l0.length : Int)) = true := decide_eq_true (by omega)
  go_wp2
  go_ret
  exact ⟨rfl, HB14.out⟩

/-! ### The row's step -/
theorem reads (os : Os) {H : Type} (enc : TypeId × Value → H) : (DataW.whole enc Tryd.prog ((Card.laidWorld os).forCall (fun _ _ => 0) ⟨#[], #[.slice none 0 0, .string ByteArray.empty, .string ByteArray.empty, .string ByteArray.empty], []⟩).memory Tryd.f5.params.toList Rows.headDropSpec.vars false (#[.slice none 0 0, .string ByteArray.empty, .string ByteArray.empty, .string ByteArray.empty] : Array Value).toList 8).map (fun x => (x.1, x.2.1)) = some ([.nil, .lit (.string []), .lit (.string []), .lit (.string [])], []) := by kernel_rfl
set_option maxRecDepth 100000 in
theorem lifted (os : Os) (started : os.Started) (H : Type) (enc : TypeId × Value → H) (F : Stop.Interp) :
    ReturnsInHanded {} Tryd.checked os 5 .any ((OpenSpec.ofChange Rows.headDropSpec).preRow enc Tryd.prog Tryd.f5 Rows.headDropRow.domain false Rows.headDropRow.laid) (((OpenSpec.ofChange Rows.headDropSpec).at F).post enc Tryd.prog Tryd.f5 false true false false) := by
  obtain ⟨⟨x1, x2, x3⟩, hx, hx1⟩ := Option.map_eq_some_iff.1 (reads os enc)
  simp only [Prod.mk.injEq] at hx1
  obtain ⟨rfl, rfl⟩ := hx1
  refine returnsInHanded_of_row (C := Tryd.checked) (s := OpenSpec.ofChange Rows.headDropSpec) own started (by kernel_rfl) Tryd.func5
    (witness_row_at (enc := enc) (C := Tryd.checked) false (Card.laidWorld os) #[.slice none 0 0, .string ByteArray.empty, .string ByteArray.empty, .string ByteArray.empty] rfl (by kernel_rfl) (by kernel_rfl) (by kernel_rfl)
      (OpenSpec.preRow_of_cond 8 hx (by kernel_rfl) (fun k hk => by cases hk) (by kernel_rfl) (Card.laid_met os _))) ?_
  intro W base args ds gs before hval0 hW _ _ _ hL hsh _
  obtain ⟨m, hm⟩ := Card.maxLen_int hsh
  have hval : ∀ (j : Nat) t v, Tryd.f5.params[j]? = some t → args[j]? = some v → Value.okWide Tryd.prog W .any base t v := hval0
  have hW' := hW
  obtain ⟨p, q, hA0, hV, rfl, hfz, hnd⟩ := hW
  have hA : DataW.TrodAll enc Tryd.prog W 0 (fun _ => true) true Tryd.f5.params.toList args.toList ds p := hA0
  rw [Tryd.params5] at hA hval
  obtain ⟨v0, vs0, d0, ds0, p0, q0, hargs0, rfl, rfl, t0, r0⟩ := trodAll_cons hA
  obtain ⟨v1, vs1, d1, ds1, p1, q1, hargs1, rfl, rfl, t1, r1⟩ := trodAll_cons r0
  obtain ⟨v2, vs2, d2, ds2, p2, q2, hargs2, rfl, rfl, t2, r2⟩ := trodAll_cons r1
  obtain ⟨v3, vs3, d3, ds3, p3, q3, hargs3, rfl, rfl, t3, r3⟩ := trodAll_cons r2
  obtain ⟨rfl, rfl, rfl⟩ := trodAll_nil r3
  obtain rfl : args = #[v0, v1, v2, v3] := by cases args; simp_all
  obtain ⟨rfl, rfl⟩ := trodVars_none hV
  obtain ⟨a0, len0, cap0, rfl⟩ := okWide_slice Tryd.underlying22 (hval 0 22 v0 rfl rfl)
  have k0 := t0
  have lt0 : ∀ x ∈ p0, x.block < W.heap.size := by obtain ⟨m, hm⟩ := k0; exact DataW.trod_lt m _ _ _ hm
  obtain ⟨z0, w0⟩ := Head.open_flds t0
  obtain ⟨a1, rfl, rfl, rfl, w1⟩ := open_string Tryd.underlying9 (hval 1 9 v1 rfl rfl) t1
  obtain ⟨a2, rfl, rfl, rfl, w2⟩ := open_string Tryd.underlying9 (hval 2 9 v2 rfl rfl) t2
  obtain ⟨a3, rfl, rfl, rfl, w3⟩ := open_string Tryd.underlying9 (hval 3 9 v3 rfl rfl) t3
  clear hA0 hval0
  simp only [List.append_nil] at hW'
  refine (walk (.slice a0 len0 cap0) z0 a1 a2 a3 w1 w2 w3 m W hm w0).mono fun e W' ⟨he, bel⟩ => ?_
  subst he
  exact ⟨_, rfl, _, _, _, [], _, [], hW', trodAll_mk1 (shut_bool Tryd.underlying4 _), (trodAll_cons_mk (Below.trod laidOut (by kernel_rfl) (of_decide_eq_true (by kernel_rfl)) k0 bel lt0) (trodAll_cons_mk (shut_string Tryd.underlying9 w1) (trodAll_cons_mk (shut_string Tryd.underlying9 w2) (trodAll_cons_mk (shut_string Tryd.underlying9 w3) trodAll_mk0)))), rfl, bel.frame _, fun h => by cases h⟩

theorem said : Rows.headDropRow.holds Tryd.pinned (OpenSpec.ofChange Rows.headDropSpec) :=
  OpenClaim.holds_of_cond 5 Tryd.f5 rfl rfl rfl rfl rfl rfl rfl ⟨rfl, rfl, rfl, rfl, rfl⟩ rfl rfl rfl rfl rfl (by kernel_rfl) Tryd.func5 (by kernel_rfl)
    (of_decide_eq_true (by kernel_rfl)) (by unfold Func.isWrapper; first | (rw [if_pos (by decide +kernel)]; kernel_rfl) | (rw [if_neg (by decide +kernel)]; exact ⟨rfl, rfl⟩))
    (fun os started H enc _ F => by rw [OpenClaim.pre_eq_preRow]; exact lifted os started H enc F)

/-- No parameter wants a stand-in; the program's own looks are off. -/
theorem plain (f : FuncId) (fn : Func) (hf : Tryd.pinned.checked.prog.funcNamed Rows.headDropRow.func = some f) (hfn : Tryd.pinned.checked.prog.funcs[f]? = some fn) :
    false = Tryd.pinned.checked.prog.looks [] ∧ ∀ (j : Nat) t, fn.params[j]? = some t → Tryd.pinned.checked.prog.wantsStandIn t = false := by
  obtain rfl : f = 5 := Option.some.inj ((show Tryd.prog.funcNamed Rows.headDropRow.func = some 5 by kernel_rfl).symm.trans hf) |>.symm
  obtain rfl : fn = Tryd.f5 := (Option.some.inj (Tryd.func5.symm.trans hfn)).symm
  refine ⟨by kernel_rfl, fun j t ht => ?_⟩
  rw [Tryd.params5] at ht
  obtain rfl | rfl : t = 22 ∨ t = 9 := by simpa using Array.mem_of_getElem? ht
  · exact (show Tryd.prog.wantsStandIn 22 = false by kernel_rfl)
  · exact (show Tryd.prog.wantsStandIn 9 = false by kernel_rfl)

/-- The statement: the card. -/
theorem proved : Rows.HeadDropCardSaid :=
  Claim7.holds_tied_plain_at .later [] _ _ _ _ said (fun _ h => by cases h) (by kernel_rfl) (fun _ h => by cases h) headDrop_row_tie rfl ⟨rfl, rfl⟩ (by kernel_rfl) rfl plain (by kernel_rfl)
#print axioms proved
end Go.Proofs.YtagmmdnfbjgmcaaDoor.headDrop
