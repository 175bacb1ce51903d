/-
  HeadGet of layer 13 returns true for every input and leaves its arguments as they were: of one value it is that, of more with commas between; of two lists the values of both, in order; without one nothing is got. Conditions: the two tables of unicode/utf8 lie as their texts lay them (listed by the card), internal/bytealg.MaxLen holds any int.
-/
import Derived.Test.YtagmmdnfbjgmcaaDoorCards
import Derived.Test.YtagmmdnfbjgmcaaDoorTie
import Derived.WalkKit
import Derived.ProofKit
import Derived.OpenShut
import Derived.ShutString
import Derived.ChangeOld
import Derived.Below
import Derived.Test.YtagmmdnfbjgmcaaDoorHdRows
import Derived.Test.YtagmmdnfbjgmcaaDoorLaid
namespace Go.Proofs.YtagmmdnfbjgmcaaDoor.headGet
open Go.ChangeShapes Go.WideShapes Go.ChangeAt Go.RowKit
open Go.ChangeMaps (open_string shut_string)
open Go.Shelf
open Go.Proofs.YtagmmdnfbjgmcaaDoor.Head
set_option linter.unusedSimpArgs false
set_option linter.unusedVariables false

theorem own : ownKnob Tryd.prog.godebug = none := by kernel_rfl
theorem laidOut : laidOutB Tryd.prog = true := by kernel_rfl

set_option maxRecDepth 100000
set_option maxHeartbeats 16000000 in
theorem walk (v0 : Value) (l0 : List F) (v1 : Value) (l1 : List F) (a2 : ByteArray) (w2 : a2.size ≤ maxLen) (m : Int) (w : World) (hm : Path.MaxAt m w) (w0 : Flds w v0 l0) (w1 : Flds w v1 l1) :
    Calls Tryd.prog 7 #[v0, v1, .string a2] w fun e w' => e = .returned (.bool true) ∧ Below w.heap.size w w' := by
  have HM0 := Lib.hid hm
  have HF0_0 := Lib.hid w0
  obtain ⟨ax0, cx0, rfl, -⟩ := w0
  have HF1_0 := Lib.hid w1
  obtain ⟨ax1, cx1, rfl, -⟩ := w1
  clear hm
  go_enter Tryd.func7, Tryd.ntmps7
  go_wp2_with fail
  refine (awake_calls m w HM0.out).mono ?_
  rintro e X1 ⟨rfl, hB⟩
  have HB1 := Lib.hid (hB)
  have HM1 := Lib.hid (HM0.out.later hB)
  have HF0_1 := Lib.hid (HF0_0.out.later hB)
  have HF1_1 := Lib.hid (HF1_0.out.later hB)
  clear HM0 HF0_0 HF1_0
  clear hB
  go_wp2_with fail
  refine (few_any _ l0 X1 HF0_1.out).mono ?_
  rintro e X' ⟨rfl, rfl⟩
  obtain ⟨b0, hb0⟩ : ∃ b, fewF l0 = b := ⟨_, rfl⟩
  rw [hb0]
  go_wp2_with fail
  refine (few_any _ l1 X1 HF1_1.out).mono ?_
  rintro e X' ⟨rfl, rfl⟩
  obtain ⟨b1, hb1⟩ : ∃ b, fewF l1 = b := ⟨_, rfl⟩
  rw [hb1]
  cases b0
  rotate_left
  rotate_left
  · go_wp2
    go_ret
    exact ⟨rfl, HB1.out⟩
  obtain ⟨hl0, hs0⟩ := few_of hb0
  have HS0 := Lib.hid (few_big hs0)
  have HT0 := Lib.hid hs0
  clear hb0 hs0
  cases b1
  rotate_left
  rotate_left
  · go_wp2
    go_ret
    exact ⟨rfl, HB1.out⟩
  obtain ⟨hl1, hs1⟩ := few_of hb1
  have HS1 := Lib.hid (few_big hs1)
  have HT1 := Lib.hid hs1
  clear hb1 hs1
  rcases Nat.lt_or_ge 300 a2.size with h2 | h2
  · have q : decide ((300 : Int) < (a2.size : Int)) = true := decide_eq_true (by omega)
    go_wp2
    go_ret
    exact ⟨rfl, HB1.out⟩
  have q2 : decide ((300 : Int) < (a2.size : Int)) = false := decide_eq_false (by omega)
  have hal0 := Nat.le_trans (all_len l0 a2.data.toList) hl0
  have hal1 := Nat.le_trans (all_len l1 a2.data.toList) hl1
  have HSB := Lib.hid (mem_both HS0.out HS1.out)
  have OW1 := Lib.hid (OwnF.start X1)
  have HC1 := Lib.hid (Below.refl X1.heap.size X1)
  have SHB := HB1
  have SHM := HM1
  have SHF0_ := HF0_1
  have SHF1_ := HF1_1
  go_wp2_with (at_builtin; refine wp_app_flds rfl _ _ rfl rfl OW1.out rfl HF0_1.out (by rw [List.length_nil]; omega) ?_)
  intro va1 X2 hO hBb
  have hT := HC1.out.trans hBb
  try rw [List.nil_append] at hO
  have HM2' := Lib.hid (SHM.out.later hT)
  have HF0_2' := Lib.hid (SHF0_.out.later hT)
  have HF1_2' := Lib.hid (SHF1_.out.later hT)
  have HB2 := Lib.hid (Ascii.below2 SHB.out hT)
  clear HB1 HC1 HM1 HF0_1 HF1_1 OW1
  have HM2 := HM2'
  clear HM2'
  have HF0_2 := HF0_2'
  clear HF0_2'
  have HF1_2 := HF1_2'
  clear HF1_2'
  have OW2 := Lib.hid hO
  have HC2 := Lib.hid hT
  clear hO hBb hT
  go_wp2_with (at_builtin; refine wp_app_flds rfl _ _ rfl rfl OW2.out rfl HF1_2.out (by omega) ?_)
  intro va2 X3 hO hBb
  have hT := HC2.out.trans hBb
  have HM3' := Lib.hid (SHM.out.later hT)
  have HF0_3' := Lib.hid (SHF0_.out.later hT)
  have HF1_3' := Lib.hid (SHF1_.out.later hT)
  have HB3 := Lib.hid (Ascii.below2 SHB.out hT)
  clear HB2 HC2 HM2 HF0_2 HF1_2 OW2
  have HM3 := HM3'
  clear HM3'
  have HF0_3 := HF0_3'
  clear HF0_3'
  have HF1_3 := HF1_3'
  clear HF1_3'
  have OW3 := Lib.hid hO
  have HC3 := Lib.hid hT
  clear hO hBb hT
  have HBo3 := Lib.hid (OW3.out.flds)
  clear OW3 HC3 SHB SHM SHF0_ SHF1_
  have hb2 : (l0 ++ l1).length ≤ 100000 := by rw [List.length_append]; omega
  have cA := fun u (hu : Flds u (.slice ax0 l0.length cx0) l0) => get_any _ l0 (by omega) HS0.out a2 (by omega) u hu
  have cB := fun u (hu : Flds u (.slice ax1 l1.length cx1) l1) => get_any _ l1 (by omega) HS1.out a2 (by omega) u hu
  have cZ := fun u (hu : Flds u va2 (l0 ++ l1)) => get_any _ (l0 ++ l1) hb2 HSB.out a2 (by omega) u hu
  have hg := get_app l0 l1 a2.data.toList
  have hgB := getB_app l0 l1 a2.data.toList
  have HE := Lib.hid (fun h => show (tb (getT l0 a2.data.toList)).toList.isEmpty = true by rw [get_none l0 a2.data.toList h]; unfold tb ByteArray.toList ByteArray.toList.loop; rfl)
  have HL := Lib.hid (show decide (0 < (allL l0 a2.data.toList).length) = getB l0 a2.data.toList by unfold getB; first | rfl | (rw [Bool.eq_iff_iff]; simp))
  have hsz : ∀ l : List F, l.length ≤ 60 → (∀ f ∈ l, f.1.length ≤ 300 ∧ f.2.length ≤ 300) → (tb (getT l a2.data.toList)).size ≤ 20000 := fun l h1 h2 => by
    have h3 := join_len (allL l a2.data.toList) 300 (fun t ht => by obtain ⟨f, hf, rfl⟩ := all_mem l a2.data.toList t ht; exact (h2 f hf).2)
    have h4 := all_len l a2.data.toList
    have h5 : (allL l a2.data.toList).length * (300 + 2) ≤ 60 * 302 := Nat.mul_le_mul (by omega) (by omega)
    rw [tb_size]
    show (Lib.join (allL l a2.data.toList) [44, 32]).length ≤ 20000
    omega
  have hx1 := hsz l0 hl0 HT0.out
  have hy1 := hsz l1 hl1 HT1.out
  clear hsz
  have HZ := Lib.hid (show tb (getT (l0 ++ l1) a2.data.toList) = if getB l0 a2.data.toList && getB l1 a2.data.toList then tb (getT l0 a2.data.toList) ++ ⟨#[44, 32]⟩ ++ tb (getT l1 a2.data.toList) else tb (getT l0 a2.data.toList) ++ tb (getT l1 a2.data.toList) from by
    rw [hg]
    split
    · rw [tb_app, tb_app]; rfl
    · rw [tb_app])
  clear hg
  generalize tb (getT (l0 ++ l1) a2.data.toList) = Z at cZ HZ
  generalize tb (getT l0 a2.data.toList) = X at cA HZ HE hx1
  generalize tb (getT l1 a2.data.toList) = Y at cB HZ hy1
  rw [hgB] at cZ
  generalize getB l0 a2.data.toList = i at cA cZ HZ HE HL
  generalize getB l1 a2.data.toList = c at cB cZ HZ
  clear hgB
  go_wp2_with fail
  refine (cA _ HF0_3.out).mono ?_
  rintro e X4 ⟨rfl, hB⟩
  have HB4 := Lib.hid (Ascii.below2 HB3.out hB)
  have HM4 := Lib.hid (HM3.out.later hB)
  have HF0_4 := Lib.hid (HF0_3.out.later hB)
  have HF1_4 := Lib.hid (HF1_3.out.later hB)
  have HBo4 := Lib.hid (HBo3.out.later hB)
  clear HB3 HM3 HF0_3 HF1_3 HBo3
  clear hB 
  go_wp2_with fail
  refine (cB _ HF1_4.out).mono ?_
  rintro e X5 ⟨rfl, hB⟩
  have HB5 := Lib.hid (Ascii.below2 HB4.out hB)
  have HM5 := Lib.hid (HM4.out.later hB)
  have HF0_5 := Lib.hid (HF0_4.out.later hB)
  have HF1_5 := Lib.hid (HF1_4.out.later hB)
  have HBo5 := Lib.hid (HBo4.out.later hB)
  clear HB4 HM4 HF0_4 HF1_4 HBo4
  clear hB 
  go_wp2_with fail
  refine (cZ _ HBo5.out).mono ?_
  rintro e X6 ⟨rfl, hB⟩
  have HB6 := Lib.hid (Ascii.below2 HB5.out hB)
  have HM6 := Lib.hid (HM5.out.later hB)
  have HF0_6 := Lib.hid (HF0_5.out.later hB)
  have HF1_6 := Lib.hid (HF1_5.out.later hB)
  have HBo6 := Lib.hid (HBo5.out.later hB)
  clear HB5 HM5 HF0_5 HF1_5 HBo5
  clear hB 
  go_wp2_with fail
  refine (all_any _ _ hb2 HSB.out a2 (by omega) _ HBo6.out).mono ?_
  rintro e X7 ⟨vp, rfl, hP, hB⟩
  have HB7 := Lib.hid (Ascii.below2 HB6.out hB)
  have HM7 := Lib.hid (HM6.out.later hB)
  have HF0_7 := Lib.hid (HF0_6.out.later hB)
  have HF1_7 := Lib.hid (HF1_6.out.later hB)
  have HBo7 := Lib.hid (HBo6.out.later hB)
  have HP_7 := Lib.hid (hP)
  clear HB6 HM6 HF0_6 HF1_6 HBo6
  clear hB hP
  go_wp2_with fail
  refine (all_any _ l0 (by omega) HS0.out a2 (by omega) _ HF0_7.out).mono ?_
  rintro e X8 ⟨vq, rfl, hQ, hB⟩
  have HB8 := Lib.hid (Ascii.below2 HB7.out hB)
  have HM8 := Lib.hid (HM7.out.later hB)
  have HF0_8 := Lib.hid (HF0_7.out.later hB)
  have HF1_8 := Lib.hid (HF1_7.out.later hB)
  have HBo8 := Lib.hid (HBo7.out.later hB)
  have HP_8 := Lib.hid (HP_7.out.later hB)
  have HQ_8 := Lib.hid (hQ)
  clear HB7 HM7 HF0_7 HF1_7 HBo7 HP_7
  clear hB hQ
  have OW8 := Lib.hid (OwnS.start X8)
  have HC8 := Lib.hid (Below.refl X8.heap.size X8)
  have SHB := HB8
  have SHM := HM8
  have SHF0_ := HF0_8
  have SHF1_ := HF1_8
  have SHP_ := HP_8
  have SHQ_ := HQ_8
  go_wp2_with (at_builtin; refine wp_app_strs rfl _ _ rfl rfl OW8.out rfl HQ_8.out (by rw [List.length_nil]; omega) ?_)
  intro va8 X9 hO hBb
  have hT := HC8.out.trans hBb
  try rw [List.nil_append] at hO
  have HM9' := Lib.hid (SHM.out.later hT)
  have HF0_9' := Lib.hid (SHF0_.out.later hT)
  have HF1_9' := Lib.hid (SHF1_.out.later hT)
  have HP_9' := Lib.hid (SHP_.out.later hT)
  have HQ_9' := Lib.hid (SHQ_.out.later hT)
  have HB9 := Lib.hid (Ascii.below2 SHB.out hT)
  clear HB8 HC8 HM8 HF0_8 HF1_8 HBo8 HP_8 HQ_8 OW8
  have HM9 := HM9'
  clear HM9'
  have HF0_9 := HF0_9'
  clear HF0_9'
  have HF1_9 := HF1_9'
  clear HF1_9'
  have HP_9 := HP_9'
  clear HP_9'
  have HQ_9 := HQ_9'
  clear HQ_9'
  have OW9 := Lib.hid hO
  have HC9 := Lib.hid hT
  clear hO hBb hT
  go_wp2_with fail
  refine (all_any _ l1 (by omega) HS1.out a2 (by omega) _ HF1_9.out).mono ?_
  rintro e X10 ⟨vr, rfl, hR, hB⟩
  have HB10 := Lib.hid (Ascii.below2 HB9.out hB)
  have HM10 := Lib.hid (HM9.out.later hB)
  have HF0_10 := Lib.hid (HF0_9.out.later hB)
  have HF1_10 := Lib.hid (HF1_9.out.later hB)
  have HP_10 := Lib.hid (HP_9.out.later hB)
  have HQ_10 := Lib.hid (HQ_9.out.later hB)
  have OW10 := Lib.hid (OW9.out.later hB)
  have HR_10 := Lib.hid (hR)
  clear HB9 HM9 HF0_9 HF1_9 HP_9 HQ_9 OW9
  have HC10 := Lib.hid (Ascii.below2 HC9.out hB)
  clear HC9
  clear hB hR
  go_wp2_with (at_builtin; refine wp_app_strs rfl _ _ rfl rfl OW10.out rfl HR_10.out (by omega) ?_)
  intro va10 X11 hO hBb
  have hT := HC10.out.trans hBb
  have HM11' := Lib.hid (SHM.out.later hT)
  have HF0_11' := Lib.hid (SHF0_.out.later hT)
  have HF1_11' := Lib.hid (SHF1_.out.later hT)
  have HP_11' := Lib.hid (SHP_.out.later hT)
  have HQ_11' := Lib.hid (SHQ_.out.later hT)
  have HB11 := Lib.hid (Ascii.below2 SHB.out hT)
  clear HB10 HC10 HM10 HF0_10 HF1_10 HP_10 HQ_10 OW10 HR_10
  have HM11 := HM11'
  clear HM11'
  have HF0_11 := HF0_11'
  clear HF0_11'
  have HF1_11 := HF1_11'
  clear HF1_11'
  have HP_11 := HP_11'
  clear HP_11'
  have HQ_11 := HQ_11'
  clear HQ_11'
  have OW11 := Lib.hid hO
  have HC11 := Lib.hid hT
  clear hO hBb hT
  have HAp11 := Lib.hid (OW11.out.strs)
  clear OW11 HC11 SHB SHM SHF0_ SHF1_ SHP_ SHQ_
  go_wp2_with fail
  have cE := Path.same_any _ _ _ _ X11 HP_11.out HAp11.out
  rw [show decide (allL (l0 ++ l1) a2.data.toList = allL l0 a2.data.toList ++ allL l1 a2.data.toList) = true from decide_eq_true (all_app l0 l1 a2.data.toList)] at cE
  refine (cE).mono ?_
  rintro e X12 ⟨rfl, hB⟩
  have HB12 := Lib.hid (Ascii.below2 HB11.out hB)
  have HM12 := Lib.hid (HM11.out.later hB)
  have HF0_12 := Lib.hid (HF0_11.out.later hB)
  have HF1_12 := Lib.hid (HF1_11.out.later hB)
  have HP_12 := Lib.hid (HP_11.out.later hB)
  have HQ_12 := Lib.hid (HQ_11.out.later hB)
  have HAp12 := Lib.hid (HAp11.out.later hB)
  clear HB11 HM11 HF0_11 HF1_11 HP_11 HQ_11 HAp11
  clear hB 
  clear cA cB cZ cE
  have hl9 := HL.out
  cases i <;> cases c
  · have he := HE.out rfl
    obtain rfl : Z = X ++ Y := HZ.out
    clear HZ HE
    go_wp2_with fail
    refine (all_any _ l0 (by omega) HS0.out a2 (by omega) _ HF0_12.out).mono ?_
    rintro e X13 ⟨vs, rfl, hQ, hB⟩
    have hsh := hQ
    obtain ⟨ay12, cy12, rfl, -⟩ := hsh
    have HB13 := Lib.hid (Ascii.below2 HB12.out hB)
    have HM13 := Lib.hid (HM12.out.later hB)
    have HF0_13 := Lib.hid (HF0_12.out.later hB)
    have HF1_13 := Lib.hid (HF1_12.out.later hB)
    have HP_13 := Lib.hid (HP_12.out.later hB)
    have HQ_13 := Lib.hid (HQ_12.out.later hB)
    have HAp13 := Lib.hid (HAp12.out.later hB)
    have HS_13 := Lib.hid (hQ)
    clear HB12 HM12 HF0_12 HF1_12 HP_12 HQ_12 HAp12
    clear hB hQ
    go_wp2
    go_ret
    refine ⟨?_, HB13.out⟩
    first | rfl | (show Ending.returned (Value.bool (!decide (0 < (allL l0 a2.data.toList).length))) = _; rw [hl9]; rfl) | (show Ending.returned (Value.bool (decide (0 < (allL l0 a2.data.toList).length))) = _; rw [hl9])
  · have he := HE.out rfl
    obtain rfl : Z = X ++ Y := HZ.out
    clear HZ HE
    go_wp2_with fail
    refine (all_any _ l0 (by omega) HS0.out a2 (by omega) _ HF0_12.out).mono ?_
    rintro e X13 ⟨vs, rfl, hQ, hB⟩
    have hsh := hQ
    obtain ⟨ay12, cy12, rfl, -⟩ := hsh
    have HB13 := Lib.hid (Ascii.below2 HB12.out hB)
    have HM13 := Lib.hid (HM12.out.later hB)
    have HF0_13 := Lib.hid (HF0_12.out.later hB)
    have HF1_13 := Lib.hid (HF1_12.out.later hB)
    have HP_13 := Lib.hid (HP_12.out.later hB)
    have HQ_13 := Lib.hid (HQ_12.out.later hB)
    have HAp13 := Lib.hid (HAp12.out.later hB)
    have HS_13 := Lib.hid (hQ)
    clear HB12 HM12 HF0_12 HF1_12 HP_12 HQ_12 HAp12
    clear hB hQ
    go_wp2
    go_ret
    refine ⟨?_, HB13.out⟩
    first | rfl | (show Ending.returned (Value.bool (!decide (0 < (allL l0 a2.data.toList).length))) = _; rw [hl9]; rfl) | (show Ending.returned (Value.bool (decide (0 < (allL l0 a2.data.toList).length))) = _; rw [hl9])
  · obtain rfl : Z = X ++ Y := HZ.out
    clear HZ HE
    go_wp2_with fail
    refine (all_any _ l0 (by omega) HS0.out a2 (by omega) _ HF0_12.out).mono ?_
    rintro e X13 ⟨vs, rfl, hQ, hB⟩
    have hsh := hQ
    obtain ⟨ay12, cy12, rfl, -⟩ := hsh
    have HB13 := Lib.hid (Ascii.below2 HB12.out hB)
    have HM13 := Lib.hid (HM12.out.later hB)
    have HF0_13 := Lib.hid (HF0_12.out.later hB)
    have HF1_13 := Lib.hid (HF1_12.out.later hB)
    have HP_13 := Lib.hid (HP_12.out.later hB)
    have HQ_13 := Lib.hid (HQ_12.out.later hB)
    have HAp13 := Lib.hid (HAp12.out.later hB)
    have HS_13 := Lib.hid (hQ)
    clear HB12 HM12 HF0_12 HF1_12 HP_12 HQ_12 HAp12
    clear hB hQ
    go_wp2
    go_ret
    refine ⟨?_, HB13.out⟩
    first | rfl | (show Ending.returned (Value.bool (!decide (0 < (allL l0 a2.data.toList).length))) = _; rw [hl9]; rfl) | (show Ending.returned (Value.bool (decide (0 < (allL l0 a2.data.toList).length))) = _; rw [hl9])
  · obtain rfl : Z = X ++ ⟨#[44, 32]⟩ ++ Y := HZ.out
    clear HZ HE
    go_wp2_with fail
    refine (all_any _ l0 (by omega) HS0.out a2 (by omega) _ HF0_12.out).mono ?_
    rintro e X13 ⟨vs, rfl, hQ, hB⟩
    have hsh := hQ
    obtain ⟨ay12, cy12, rfl, -⟩ := hsh
    have HB13 := Lib.hid (Ascii.below2 HB12.out hB)
    have HM13 := Lib.hid (HM12.out.later hB)
    have HF0_13 := Lib.hid (HF0_12.out.later hB)
    have HF1_13 := Lib.hid (HF1_12.out.later hB)
    have HP_13 := Lib.hid (HP_12.out.later hB)
    have HQ_13 := Lib.hid (HQ_12.out.later hB)
    have HAp13 := Lib.hid (HAp12.out.later hB)
    have HS_13 := Lib.hid (hQ)
    clear HB12 HM12 HF0_12 HF1_12 HP_12 HQ_12 HAp12
    clear hB hQ
    go_wp2
    go_ret
    refine ⟨?_, HB13.out⟩
    first | rfl | (show Ending.returned (Value.bool (!decide (0 < (allL l0 a2.data.toList).length))) = _; rw [hl9]; rfl) | (show Ending.returned (Value.bool (decide (0 < (allL l0 a2.data.toList).length))) = _; rw [hl9])

/-! ### The row's step -/
theorem reads (os : Os) {H : Type} (enc : TypeId × Value → H) : (DataW.whole enc Tryd.prog ((Card.laidWorld os).forCall (fun _ _ => 0) ⟨#[], #[.slice none 0 0, .slice none 0 0, .string ByteArray.empty], []⟩).memory Tryd.f7.params.toList Rows.headGetSpec.vars false (#[.slice none 0 0, .slice none 0 0, .string ByteArray.empty] : Array Value).toList 8).map (fun x => (x.1, x.2.1)) = some ([.nil, .nil, .lit (.string [])], []) := by kernel_rfl
set_option maxRecDepth 100000 in
theorem lifted (os : Os) (started : os.Started) (H : Type) (enc : TypeId × Value → H) (F : Stop.Interp) :
    ReturnsInHanded {} Tryd.checked os 7 .any ((OpenSpec.ofChange Rows.headGetSpec).preRow enc Tryd.prog Tryd.f7 Rows.headGetRow.domain false Rows.headGetRow.laid) (((OpenSpec.ofChange Rows.headGetSpec).at F).post enc Tryd.prog Tryd.f7 false true false false) := by
  obtain ⟨⟨x1, x2, x3⟩, hx, hx1⟩ := Option.map_eq_some_iff.1 (reads os enc)
  simp only [Prod.mk.injEq] at hx1
  obtain ⟨rfl, rfl⟩ := hx1
  refine returnsInHanded_of_row (C := Tryd.checked) (s := OpenSpec.ofChange Rows.headGetSpec) own started (by kernel_rfl) Tryd.func7
    (witness_row_at (enc := enc) (C := Tryd.checked) false (Card.laidWorld os) #[.slice none 0 0, .slice none 0 0, .string ByteArray.empty] rfl (by kernel_rfl) (by kernel_rfl) (by kernel_rfl)
      (OpenSpec.preRow_of_cond 8 hx (by kernel_rfl) (fun k hk => by cases hk) (by kernel_rfl) (Card.laid_met os _))) ?_
  intro W base args ds gs before hval0 hW _ _ _ hL hsh _
  obtain ⟨m, hm⟩ := Card.maxLen_int hsh
  have hval : ∀ (j : Nat) t v, Tryd.f7.params[j]? = some t → args[j]? = some v → Value.okWide Tryd.prog W .any base t v := hval0
  have hW' := hW
  obtain ⟨p, q, hA0, hV, rfl, hfz, hnd⟩ := hW
  have hA : DataW.TrodAll enc Tryd.prog W 0 (fun _ => true) true Tryd.f7.params.toList args.toList ds p := hA0
  rw [Tryd.params7] at hA hval
  obtain ⟨v0, vs0, d0, ds0, p0, q0, hargs0, rfl, rfl, t0, r0⟩ := trodAll_cons hA
  obtain ⟨v1, vs1, d1, ds1, p1, q1, hargs1, rfl, rfl, t1, r1⟩ := trodAll_cons r0
  obtain ⟨v2, vs2, d2, ds2, p2, q2, hargs2, rfl, rfl, t2, r2⟩ := trodAll_cons r1
  obtain ⟨rfl, rfl, rfl⟩ := trodAll_nil r2
  obtain rfl : args = #[v0, v1, v2] := by cases args; simp_all
  obtain ⟨rfl, rfl⟩ := trodVars_none hV
  obtain ⟨a0, len0, cap0, rfl⟩ := okWide_slice Tryd.underlying22 (hval 0 22 v0 rfl rfl)
  have k0 := t0
  have lt0 : ∀ x ∈ p0, x.block < W.heap.size := by obtain ⟨m, hm⟩ := k0; exact DataW.trod_lt m _ _ _ hm
  obtain ⟨z0, w0⟩ := Head.open_flds t0
  obtain ⟨a1, len1, cap1, rfl⟩ := okWide_slice Tryd.underlying22 (hval 1 22 v1 rfl rfl)
  have k1 := t1
  have lt1 : ∀ x ∈ p1, x.block < W.heap.size := by obtain ⟨m, hm⟩ := k1; exact DataW.trod_lt m _ _ _ hm
  obtain ⟨z1, w1⟩ := Head.open_flds t1
  obtain ⟨a2, rfl, rfl, rfl, w2⟩ := open_string Tryd.underlying9 (hval 2 9 v2 rfl rfl) t2
  clear hA0 hval0
  simp only [List.append_nil] at hW'
  refine (walk (.slice a0 len0 cap0) z0 (.slice a1 len1 cap1) z1 a2 w2 m W hm w0 w1).mono fun e W' ⟨he, bel⟩ => ?_
  subst he
  exact ⟨_, rfl, _, _, _, [], _, [], hW', trodAll_mk1 (shut_bool Tryd.underlying4 _), (trodAll_cons_mk (Below.trod laidOut (by kernel_rfl) (of_decide_eq_true (by kernel_rfl)) k0 bel lt0) (trodAll_cons_mk (Below.trod laidOut (by kernel_rfl) (of_decide_eq_true (by kernel_rfl)) k1 bel lt1) (trodAll_cons_mk (shut_string Tryd.underlying9 w2) trodAll_mk0))), rfl, bel.frame _, fun h => by cases h⟩

theorem said : Rows.headGetRow.holds Tryd.pinned (OpenSpec.ofChange Rows.headGetSpec) :=
  OpenClaim.holds_of_cond 7 Tryd.f7 rfl rfl rfl rfl rfl rfl rfl ⟨rfl, rfl, rfl, rfl, rfl⟩ rfl rfl rfl rfl rfl (by kernel_rfl) Tryd.func7 (by kernel_rfl)
    (of_decide_eq_true (by kernel_rfl)) (by unfold Func.isWrapper; first | (rw [if_pos (by decide +kernel)]; kernel_rfl) | (rw [if_neg (by decide +kernel)]; exact ⟨rfl, rfl⟩))
    (fun os started H enc _ F => by rw [OpenClaim.pre_eq_preRow]; exact lifted os started H enc F)

/-- No parameter wants a stand-in; the program's own looks are off. -/
theorem plain (f : FuncId) (fn : Func) (hf : Tryd.pinned.checked.prog.funcNamed Rows.headGetRow.func = some f) (hfn : Tryd.pinned.checked.prog.funcs[f]? = some fn) :
    false = Tryd.pinned.checked.prog.looks [] ∧ ∀ (j : Nat) t, fn.params[j]? = some t → Tryd.pinned.checked.prog.wantsStandIn t = false := by
  obtain rfl : f = 7 := Option.some.inj ((show Tryd.prog.funcNamed Rows.headGetRow.func = some 7 by kernel_rfl).symm.trans hf) |>.symm
  obtain rfl : fn = Tryd.f7 := (Option.some.inj (Tryd.func7.symm.trans hfn)).symm
  refine ⟨by kernel_rfl, fun j t ht => ?_⟩
  rw [Tryd.params7] at ht
  obtain rfl | rfl : t = 22 ∨ t = 9 := by simpa using Array.mem_of_getElem? ht
  · exact (show Tryd.prog.wantsStandIn 22 = false by kernel_rfl)
  · exact (show Tryd.prog.wantsStandIn 9 = false by kernel_rfl)

/-- The statement: the card. -/
theorem proved : Rows.HeadGetCardSaid :=
  Claim7.holds_tied_plain_at .later [] _ _ _ _ said (fun _ h => by cases h) (by kernel_rfl) (fun _ h => by cases h) headGet_row_tie rfl ⟨rfl, rfl⟩ (by kernel_rfl) rfl plain (by kernel_rfl)
#print axioms proved
end Go.Proofs.YtagmmdnfbjgmcaaDoor.headGet
