/-
  The document's Trim.
-/
import Derived.Test.YtmhoooenolackaaRefa
namespace Go.Proofs.Ytmhoooenolackaa
open Go.RowKit
set_option linter.unusedSimpArgs false
set_option linter.unusedVariables false

def strSize : Value → Nat
  | .string b => b.size
  | _ => 0

theorem extract_list (c : ByteArray) (a b : Nat) : (c.extract a b).data.toList = (c.data.toList.take b).drop a := by
  rw [ByteArray.data_extract, Array.toList_extract, List.extract_eq_take_drop]
  rw [List.take_drop]
  by_cases h : a ≤ b
  · rw [show a + (b - a) = b by omega]
  · rw [List.drop_of_length_le (by rw [List.length_take]; omega), List.drop_of_length_le (by rw [List.length_take]; omega)]

theorem trim_first (c : ByteArray) (h : 0 < c.size) (hl : (c[0].toNat : Int) ≤ 32) : trim (c.extract 1 c.size).data.toList = trim c.data.toList := by
  rw [extract_list, List.take_of_length_le (by exact Nat.le_refl _)]
  have e : c.data.toList = c[0] :: c.data.toList.drop 1 := List.drop_eq_getElem_cons (l := c.data.toList) (i := 0) h
  conv => rhs; rw [e]
  have hlo : lowish c[0] = true := by simp [lowish]; omega
  show dropEnd (outL _) = dropEnd (outL (c[0] :: _))
  rw [show outL (c[0] :: c.data.toList.drop 1) = outL (c.data.toList.drop 1) by simp [outL, hlo]]

theorem snoc_last (c : ByteArray) (h : 0 < c.size) : c.data.toList = c.data.toList.take (c.size - 1) ++ [c[c.size - 1]] := by
  have := List.take_succ_eq_append_getElem (l := c.data.toList) (i := c.size - 1) (by show c.size - 1 < c.size; omega)
  rw [show c.size - 1 + 1 = c.size by omega, List.take_of_length_le (by exact Nat.le_refl _)] at this
  exact this

theorem trim_last (c : ByteArray) (h : 0 < c.size) (hl : (c[c.size - 1].toNat : Int) ≤ 32) : trim (c.extract 0 (c.size - 1)).data.toList = trim c.data.toList := by
  rw [extract_list, List.drop_zero]
  conv => rhs; rw [snoc_last c h]
  have hlo : lowish c[c.size - 1] = true := by simp [lowish]; omega
  show dropEnd (outL _) = dropEnd (outL (_ ++ [_]))
  by_cases h0 : outL (c.data.toList.take (c.size - 1)) = []
  · rw [outL_skip _ _ hlo h0, h0]
  · rw [outL_add _ _ (.inr h0), dropEnd_ws _ _ hlo]

/-- Empty, or it begins by a byte above 32. -/
def Front (c : ByteArray) : Prop := ∀ h : 0 < c.size, 32 < (c[0].toNat : Int)
theorem front_last (c : ByteArray) (h : Front c) (h0 : 0 < c.size) : Front (c.extract 0 (c.size - 1)) := by
  intro hz
  have e : (c.extract 0 (c.size - 1)).data.toList[0]? = some (c.extract 0 (c.size - 1))[0] := List.getElem?_eq_getElem (l := (c.extract 0 (c.size - 1)).data.toList) (i := 0) hz
  have e2 : c.data.toList[0]? = some c[0] := List.getElem?_eq_getElem (l := c.data.toList) (i := 0) h0
  have hz' : 0 < c.size - 1 := by simp at hz; omega
  rw [extract_list, List.drop_zero, List.getElem?_take_of_lt hz', e2] at e
  rw [← Option.some.inj e]
  exact h h0
theorem tight_of (c : ByteArray) (h : Front c) (hl : ∀ h : 0 < c.size, 32 < (c[c.size - 1].toNat : Int)) : Tight c.data.toList := by
  by_cases h0 : 0 < c.size
  · have f := h h0
    have g := hl h0
    refine .inr ⟨⟨c[0], c.data.toList.drop 1, List.drop_eq_getElem_cons (l := c.data.toList) (i := 0) h0, by simp [lowish]; omega⟩, c.data.toList.take (c.size - 1), c[c.size - 1], snoc_last c h0, by simp [lowish]; omega⟩
  · refine .inl (List.eq_nil_of_length_eq_zero ?_)
    show c.size = 0
    omega
theorem trim_done (c s : ByteArray) (ht : Tight c.data.toList) (h : trim c.data.toList = trim s.data.toList) : c = ⟨(trim s.data.toList).toArray⟩ := by
  rw [← h, trim_tight _ ht]

set_option maxHeartbeats 2000000 in
theorem refTrim_any (s : ByteArray) (hs : s.size ≤ 600) (w : World) :
    Calls Try.prog 21 #[.string s] w fun e w' => e = .returned (.string ⟨(trim s.data.toList).toArray⟩) ∧ w = w' := by
  go_enter Try.func21, Try.ntmps21
  go_wp2
  go_loop [0] (fun v => ∃ c : ByteArray, v = .string c ∧ c.size ≤ 600 ∧ Hid (trim c.data.toList = trim s.data.toList)) (fun v => strSize v)
  case atStart => exact ⟨s, rfl, hs, Lib.hid rfl⟩
  case round =>
    obtain ⟨c, rfl, hc, ht⟩ := hrel
    by_cases h0 : 0 < c.size
    · have g0 : decide ((0 : Int) < c.size) = true := by simp; omega
      by_cases h1 : (c[0].toNat : Int) ≤ 32
      · have g1 : decide ((c[0].toNat : Int) ≤ 32) = true := by simpa using h1
        have H2 := Lib.hid ((trim_first c h0 h1).trans ht.out)
        go_wp2
        go_round
        case rel => exact ⟨c.extract 1 c.size, rfl, by simp; omega, H2⟩
        case measure => simp [strSize]; omega
      · have g1 : decide ((c[0].toNat : Int) ≤ 32) = false := by simpa using h1
        have HF := Lib.hid (show Front c from fun _ => by omega)
        clear h1
        go_wp2
        go_loop [0] (fun v => ∃ d : ByteArray, v = .string d ∧ d.size ≤ 600 ∧ Hid (Front d) ∧ Hid (trim d.data.toList = trim s.data.toList)) (fun v => strSize v)
        case atStart => exact ⟨c, rfl, hc, HF, ht⟩
        case round =>
          obtain ⟨d, rfl, hd, hF, hT⟩ := hrel
          clear g1 g0 HF ht hc
          by_cases k0 : 0 < d.size
          · have p0 : decide ((0 : Int) < d.size) = true := by simp; omega
            by_cases k1 : (d[d.size - 1].toNat : Int) ≤ 32
            · have p1 : decide ((d[d.size - 1].toNat : Int) ≤ 32) = true := by simpa using k1
              have H2 := Lib.hid ((trim_last d k0 k1).trans hT.out)
              have H3 := Lib.hid (front_last d hF.out k0)
              go_wp2
              go_round
              case rel => exact ⟨d.extract 0 (d.size - 1), by simp, by simp; omega, H3, H2⟩
              case measure => simp [strSize]; omega
            · have p1 : decide ((d[d.size - 1].toNat : Int) ≤ 32) = false := by simpa using k1
              have HE := Lib.hid (trim_done d s (tight_of d hF.out (fun _ => by omega)) hT.out)
              clear k1
              go_wp2
              go_ret
              exact ⟨by rw [← HE.out]; rfl, rfl⟩
          · have p0 : decide ((0 : Int) < d.size) = false := by rw [decide_eq_false_iff_not]; omega
            have HE := Lib.hid (trim_done d s (tight_of d hF.out (fun h => absurd h k0)) hT.out)
            go_wp2
            go_ret
            exact ⟨by rw [← HE.out]; rfl, rfl⟩
    · have g0 : decide ((0 : Int) < c.size) = false := by rw [decide_eq_false_iff_not]; omega
      have HF := Lib.hid (show Front c from fun h => absurd h h0)
      go_wp2
      go_loop [0] (fun v => ∃ d : ByteArray, v = .string d ∧ d.size ≤ 600 ∧ Hid (Front d) ∧ Hid (trim d.data.toList = trim s.data.toList)) (fun v => strSize v)
      case atStart => exact ⟨c, rfl, hc, HF, ht⟩
      case round =>
        obtain ⟨d, rfl, hd, hF, hT⟩ := hrel
        clear g0 h0 HF ht hc
        by_cases k0 : 0 < d.size
        · have p0 : decide ((0 : Int) < d.size) = true := by simp; omega
          by_cases k1 : (d[d.size - 1].toNat : Int) ≤ 32
          · have p1 : decide ((d[d.size - 1].toNat : Int) ≤ 32) = true := by simpa using k1
            have H2 := Lib.hid ((trim_last d k0 k1).trans hT.out)
            have H3 := Lib.hid (front_last d hF.out k0)
            go_wp2
            go_round
            case rel => exact ⟨d.extract 0 (d.size - 1), by simp, by simp; omega, H3, H2⟩
            case measure => simp [strSize]; omega
          · have p1 : decide ((d[d.size - 1].toNat : Int) ≤ 32) = false := by simpa using k1
            have HE := Lib.hid (trim_done d s (tight_of d hF.out (fun _ => by omega)) hT.out)
            clear k1
            go_wp2
            go_ret
            exact ⟨by rw [← HE.out]; rfl, rfl⟩
        · have p0 : decide ((0 : Int) < d.size) = false := by rw [decide_eq_false_iff_not]; omega
          have HE := Lib.hid (trim_done d s (tight_of d hF.out (fun h => absurd h k0)) hT.out)
          go_wp2
          go_ret
          exact ⟨by rw [← HE.out]; rfl, rfl⟩

end Go.Proofs.Ytmhoooenolackaa
