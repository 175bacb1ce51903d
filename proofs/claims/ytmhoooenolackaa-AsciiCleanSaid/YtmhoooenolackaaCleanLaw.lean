/-
  The law AsciiClean holds for every input: for every text and every number the call returns true and leaves what was there as it was. No condition.
-/
import Derived.Test.YtmhoooenolackaaRows
import Derived.WalkKit
import Derived.ProofKit
import Derived.OpenShut
import Derived.ShutString
import Derived.Test.YtmhoooenolackaaAid
namespace Go.Proofs.Ytmhoooenolackaa.asciiClean
open Go.ChangeShapes Go.WideShapes Go.ChangeAt Go.RowKit
open Go.ChangeMaps (open_string shut_string)
open Go.Shelf
set_option linter.unusedSimpArgs false
set_option linter.unusedVariables false      -- a walk need not use every 'w<i>' (that an integer argument fits its kind)

theorem own : ownKnob Try.prog.godebug = none := by kernel_rfl

theorem lowish_no (c : UInt8) (h : lowish c = false) : (32 : Int) < (c.toNat : Int) := by
  simp [lowish] at h
  omega
theorem ends_ok (tb : ByteArray) (h : Tight tb.data.toList) (h0 : 0 < tb.size) : (32 : Int) < (tb[0].toNat : Int) ∧ ∀ j (hj : j < tb.size), j + 1 = tb.size → (32 : Int) < (tb[j].toNat : Int) := by
  rcases h with h | ⟨⟨c, r, h, hc⟩, r', c', h', hc'⟩
  · exfalso
    have : tb.data.toList.length = tb.size := rfl
    rw [h] at this
    simp at this
    omega
  · refine ⟨?_, fun j hj e => ?_⟩
    · have a : tb.data.toList[0]? = some tb[0] := List.getElem?_eq_getElem (l := tb.data.toList) (i := 0) h0
      rw [h] at a
      have b : c = tb[0] := by simpa using a
      rw [← b]
      exact lowish_no c hc
    · have a : tb.data.toList[j]? = some tb[j] := List.getElem?_eq_getElem (l := tb.data.toList) (i := j) hj
      have hz : tb.data.toList.length = tb.size := rfl
      rw [h'] at a hz
      have hj' : j = r'.length := by simp at hz; omega
      have a' : (r' ++ [c'])[r'.length]? = some tb[j] := (congrArg (fun i => (r' ++ [c'])[i]?) hj').symm.trans a
      have b : c' = tb[j] := by simpa using a'
      rw [← b]
      exact lowish_no c' hc'
theorem toList_length (b : ByteArray) : b.toList.length = b.size := by rw [ByteArray.toList_eq]; rfl
theorem clean_sub (l : List UInt8) : List.Sublist (clean l) l :=
  (List.filter_sublist).trans ((dropEnd_prefix (outL l)).sublist.trans (List.dropWhile_suffix lowish).sublist)
/-- What is left of t stands, in order, in what is left of s. -/
def Rest (s t : ByteArray) (k j : Nat) : Prop := List.Sublist (t.data.toList.drop k) (s.data.toList.drop j)
theorem drop_one (s : ByteArray) (j : Nat) (h : j < s.size) : s.data.toList.drop j = s[j] :: s.data.toList.drop (j + 1) :=
  List.drop_eq_getElem_cons (l := s.data.toList) (i := j) h
theorem rest_hit (s t : ByteArray) (k j : Nat) (hk : k < t.size) (hj : j < s.size) (h : Rest s t k j) (e : s[j] = t[k]) : Rest s t (k + 1) (j + 1) := by
  unfold Rest at *
  rw [drop_one s j hj, drop_one t k hk, e] at h
  exact List.cons_sublist_cons.1 h
theorem rest_miss (s t : ByteArray) (k j : Nat) (hk : k < t.size) (hj : j < s.size) (h : Rest s t k j) (e : s[j] ≠ t[k]) : Rest s t k (j + 1) := by
  unfold Rest at *
  rw [drop_one s j hj, drop_one t k hk] at h
  rw [drop_one t k hk]
  rcases List.sublist_cons_iff.1 h with h | ⟨r, hr, _⟩
  · exact h
  · exact absurd (List.cons.inj hr).1.symm e
theorem rest_end (s t : ByteArray) (k j : Nat) (hj : s.size ≤ j) (hk : k ≤ t.size) (h : Rest s t k j) : k = t.size := by
  unfold Rest at h
  rw [List.drop_of_length_le (i := j) (by show s.size ≤ j; exact hj)] at h
  have h1 := h.length_le
  rw [List.length_drop] at h1
  have : t.data.toList.length = t.size := rfl
  simp at h1
  have e : t.data.size = t.size := rfl
  omega
theorem clean_no (s : ByteArray) (q : Nat) (tb : ByteArray) (e : (⟨(clean s.data.toList).toArray⟩ : ByteArray) = tb) (hq : q < tb.size) : ((tb[q].toNat : Int) == 9) = false ∧ ((tb[q].toNat : Int) == 10) = false ∧ ((tb[q].toNat : Int) == 13) = false := by
  have hm : tb[q] ∈ tb.data.toList := List.getElem_mem (l := tb.data.toList) hq
  have hm2 : tb[q] ∈ clean s.data.toList := by
    have : tb.data.toList = clean s.data.toList := by rw [← e]
    rw [← this]; exact hm
  have := (List.mem_filter.1 hm2).2
  simp [breakB] at this
  simp
  omega
set_option maxRecDepth 100000 in
set_option maxHeartbeats 4000000 in
theorem walk_ea (s tb : ByteArray) (i : Int) (hs : s.size ≤ 600) (htz : tb.size ≤ 600) (h0 : tb.size = 0) (hi : i < 0) (w : World) (HT : Hid ((⟨(clean s.data.toList).toArray⟩ : ByteArray) = tb)) (hrest : Hid (Rest s tb 0 0)) :
    Calls Try.prog 8 #[.string s, .int .i64 i] w fun e w' => e = .returned (.bool true) ∧ Below w.heap.size w w' := by
  have n1 : decide ((600 : Int) < s.size) = false := by simp; omega
  have e1 : tb.toList = [] := List.eq_nil_of_length_eq_zero (by rw [toList_length]; omega)
  have e2 : tb.toList.isEmpty = true := by simpa using e1
  have q1 : decide (0 ≤ i) = false := by simp; omega
  clear h0
  go_enter Try.func8, Try.ntmps8
  go_wp2_with fail
  refine (awake_calls _).mono ?_
  rintro e u1 ⟨rfl, hB1⟩
  go_wp2_with fail
  refine (clean_calls s (by unfold maxLen; omega) (by omega) _).mono ?_
  rintro e u2 ⟨rfl, hB2⟩
  rw [HT.out]
  have hb := Lib.hid (below2 hB1 hB2)
  clear hB1 hB2
  go_wp2_with fail
  go_loopw [7, 8] (fun kk jj wr => ∃ k j : Nat, k ≤ tb.size ∧ j ≤ s.size ∧ kk = .int .i64 k ∧ jj = .int .i64 j ∧ Rest s tb k j ∧ Below u2.heap.size u2 wr) (fun _ jj _ => s.size - (intOf jj).toNat)
  case atStart => exact ⟨0, 0, Nat.zero_le _, Nat.zero_le _, rfl, rfl, hrest.out, Below.refl _ _⟩
  case round =>
    obtain ⟨k, j, hk, hj, rfl, rfl, hr, hw⟩ := hrel
    have HR := Lib.hid hr
    clear hr
    by_cases hlt : j < s.size
    · have t1 : (j : Int) < s.size := by omega
      by_cases hkt : k < tb.size
      · have t2 : (k : Int) < tb.size := by omega
        by_cases he : s[j] = tb[k]
        · have q1 : ((s[j].toNat : Int) == (tb[k].toNat : Int)) = true := by rw [he]; simp
          have HR2 := Lib.hid (rest_hit s tb k j hkt hlt HR.out he)
          clear he
          go_wp2_with fail
          go_quiet (fail)
          go_wp2
          go_roundw
          case rel => exact ⟨k + 1, j + 1, by omega, by omega, by go_num, by go_num, HR2.out, below_drewN hw _⟩
          case measure => simp [intOf]; omega
        · have q1 : ((s[j].toNat : Int) == (tb[k].toNat : Int)) = false := by
            rw [beq_eq_false_iff_ne]
            intro h
            exact he (UInt8.toNat_inj.1 (by omega))
          have HR2 := Lib.hid (rest_miss s tb k j hkt hlt HR.out he)
          clear he
          go_wp2_with fail
          go_quiet (fail)
          go_wp2
          go_roundw
          case rel => exact ⟨k, j + 1, by omega, by omega, rfl, by go_num, HR2.out, below_drewN hw _⟩
          case measure => simp [intOf]; omega
      · have q1 : decide ((k : Int) < tb.size) = false := by simp; omega
        have q2 : ((k : Int) == (tb.size : Int)) = true := by rw [beq_iff_eq]; omega
        have hfin := Lib.hid (hb.out.trans (hw.mono hb.out.size))
        go_wp2
        go_ret
        exact ⟨rfl, hfin.out⟩
    · have q0 : decide ((j : Int) < s.size) = false := by simp; omega
      have he := rest_end s tb k j (by omega) hk HR.out
      have q2 : ((k : Int) == (tb.size : Int)) = true := by rw [he]; simp
      have hfin := Lib.hid (hb.out.trans (hw.mono hb.out.size))
      clear he
      go_wp2
      go_ret
      exact ⟨rfl, hfin.out⟩

set_option maxRecDepth 100000 in
set_option maxHeartbeats 4000000 in
theorem walk_eb (s tb : ByteArray) (i : Int) (hs : s.size ≤ 600) (htz : tb.size ≤ 600) (h0 : tb.size = 0) (hi : 0 ≤ i) (w : World) (HT : Hid ((⟨(clean s.data.toList).toArray⟩ : ByteArray) = tb)) (hrest : Hid (Rest s tb 0 0)) :
    Calls Try.prog 8 #[.string s, .int .i64 i] w fun e w' => e = .returned (.bool true) ∧ Below w.heap.size w w' := by
  have n1 : decide ((600 : Int) < s.size) = false := by simp; omega
  have hi2 : (tb.size : Int) ≤ i := by omega
  have e1 : tb.toList = [] := List.eq_nil_of_length_eq_zero (by rw [toList_length]; omega)
  have e2 : tb.toList.isEmpty = true := by simpa using e1
  have q1 : decide (0 ≤ i) = true := by simp; omega
  have q2 : decide (i < (tb.size : Int)) = false := by simp; omega
  clear h0
  go_enter Try.func8, Try.ntmps8
  go_wp2_with fail
  refine (awake_calls _).mono ?_
  rintro e u1 ⟨rfl, hB1⟩
  go_wp2_with fail
  refine (clean_calls s (by unfold maxLen; omega) (by omega) _).mono ?_
  rintro e u2 ⟨rfl, hB2⟩
  rw [HT.out]
  have hb := Lib.hid (below2 hB1 hB2)
  clear hB1 hB2
  go_wp2_with fail
  go_loopw [7, 8] (fun kk jj wr => ∃ k j : Nat, k ≤ tb.size ∧ j ≤ s.size ∧ kk = .int .i64 k ∧ jj = .int .i64 j ∧ Rest s tb k j ∧ Below u2.heap.size u2 wr) (fun _ jj _ => s.size - (intOf jj).toNat)
  case atStart => exact ⟨0, 0, Nat.zero_le _, Nat.zero_le _, rfl, rfl, hrest.out, Below.refl _ _⟩
  case round =>
    obtain ⟨k, j, hk, hj, rfl, rfl, hr, hw⟩ := hrel
    have HR := Lib.hid hr
    clear hr
    by_cases hlt : j < s.size
    · have t1 : (j : Int) < s.size := by omega
      by_cases hkt : k < tb.size
      · have t2 : (k : Int) < tb.size := by omega
        by_cases he : s[j] = tb[k]
        · have q1 : ((s[j].toNat : Int) == (tb[k].toNat : Int)) = true := by rw [he]; simp
          have HR2 := Lib.hid (rest_hit s tb k j hkt hlt HR.out he)
          clear he
          go_wp2_with fail
          go_quiet (fail)
          go_wp2
          go_roundw
          case rel => exact ⟨k + 1, j + 1, by omega, by omega, by go_num, by go_num, HR2.out, below_drewN hw _⟩
          case measure => simp [intOf]; omega
        · have q1 : ((s[j].toNat : Int) == (tb[k].toNat : Int)) = false := by
            rw [beq_eq_false_iff_ne]
            intro h
            exact he (UInt8.toNat_inj.1 (by omega))
          have HR2 := Lib.hid (rest_miss s tb k j hkt hlt HR.out he)
          clear he
          go_wp2_with fail
          go_quiet (fail)
          go_wp2
          go_roundw
          case rel => exact ⟨k, j + 1, by omega, by omega, rfl, by go_num, HR2.out, below_drewN hw _⟩
          case measure => simp [intOf]; omega
      · have q1 : decide ((k : Int) < tb.size) = false := by simp; omega
        have q2 : ((k : Int) == (tb.size : Int)) = true := by rw [beq_iff_eq]; omega
        have hfin := Lib.hid (hb.out.trans (hw.mono hb.out.size))
        go_wp2
        go_ret
        exact ⟨rfl, hfin.out⟩
    · have q0 : decide ((j : Int) < s.size) = false := by simp; omega
      have he := rest_end s tb k j (by omega) hk HR.out
      have q2 : ((k : Int) == (tb.size : Int)) = true := by rw [he]; simp
      have hfin := Lib.hid (hb.out.trans (hw.mono hb.out.size))
      clear he
      go_wp2
      go_ret
      exact ⟨rfl, hfin.out⟩

set_option maxRecDepth 100000 in
set_option maxHeartbeats 4000000 in
theorem walk_na (s tb : ByteArray) (i : Int) (hs : s.size ≤ 600) (htz : tb.size ≤ 600) (h0 : 0 < tb.size) (htight : Hid (Tight tb.data.toList)) (hi : i < 0) (w : World) (HT : Hid ((⟨(clean s.data.toList).toArray⟩ : ByteArray) = tb)) (hrest : Hid (Rest s tb 0 0)) :
    Calls Try.prog 8 #[.string s, .int .i64 i] w fun e w' => e = .returned (.bool true) ∧ Below w.heap.size w w' := by
  have n1 : decide ((600 : Int) < s.size) = false := by simp; omega
  obtain ⟨f0, fl⟩ := ends_ok tb htight.out h0
  have e1 : ¬ tb.toList = [] := fun e => by have := toList_length tb; rw [e] at this; simp at this; omega
  have e2 : tb.toList.isEmpty = false := by simpa using e1
  have f1 : (32 : Int) < (tb[tb.size - 1].toNat : Int) := fl (tb.size - 1) (by omega) (by omega)
  have g0 : decide ((tb[0].toNat : Int) ≤ 32) = false := by simp; omega
  have g1 : decide ((tb[tb.size - 1].toNat : Int) ≤ 32) = false := by simp; omega
  clear fl
  have q1 : decide (0 ≤ i) = false := by simp; omega
  go_enter Try.func8, Try.ntmps8
  go_wp2_with fail
  refine (awake_calls _).mono ?_
  rintro e u1 ⟨rfl, hB1⟩
  go_wp2_with fail
  refine (clean_calls s (by unfold maxLen; omega) (by omega) _).mono ?_
  rintro e u2 ⟨rfl, hB2⟩
  rw [HT.out]
  have hb := Lib.hid (below2 hB1 hB2)
  clear hB1 hB2
  go_wp2_with fail
  go_loopw [7, 8] (fun kk jj wr => ∃ k j : Nat, k ≤ tb.size ∧ j ≤ s.size ∧ kk = .int .i64 k ∧ jj = .int .i64 j ∧ Rest s tb k j ∧ Below u2.heap.size u2 wr) (fun _ jj _ => s.size - (intOf jj).toNat)
  case atStart => exact ⟨0, 0, Nat.zero_le _, Nat.zero_le _, rfl, rfl, hrest.out, Below.refl _ _⟩
  case round =>
    obtain ⟨k, j, hk, hj, rfl, rfl, hr, hw⟩ := hrel
    have HR := Lib.hid hr
    clear hr
    by_cases hlt : j < s.size
    · have t1 : (j : Int) < s.size := by omega
      by_cases hkt : k < tb.size
      · have t2 : (k : Int) < tb.size := by omega
        by_cases he : s[j] = tb[k]
        · have q1 : ((s[j].toNat : Int) == (tb[k].toNat : Int)) = true := by rw [he]; simp
          have HR2 := Lib.hid (rest_hit s tb k j hkt hlt HR.out he)
          clear he
          go_wp2_with fail
          go_quiet (fail)
          go_wp2
          go_roundw
          case rel => exact ⟨k + 1, j + 1, by omega, by omega, by go_num, by go_num, HR2.out, below_drewN hw _⟩
          case measure => simp [intOf]; omega
        · have q1 : ((s[j].toNat : Int) == (tb[k].toNat : Int)) = false := by
            rw [beq_eq_false_iff_ne]
            intro h
            exact he (UInt8.toNat_inj.1 (by omega))
          have HR2 := Lib.hid (rest_miss s tb k j hkt hlt HR.out he)
          clear he
          go_wp2_with fail
          go_quiet (fail)
          go_wp2
          go_roundw
          case rel => exact ⟨k, j + 1, by omega, by omega, rfl, by go_num, HR2.out, below_drewN hw _⟩
          case measure => simp [intOf]; omega
      · have q1 : decide ((k : Int) < tb.size) = false := by simp; omega
        have q2 : ((k : Int) == (tb.size : Int)) = true := by rw [beq_iff_eq]; omega
        have hfin := Lib.hid (hb.out.trans (hw.mono hb.out.size))
        go_wp2
        go_ret
        exact ⟨rfl, hfin.out⟩
    · have q0 : decide ((j : Int) < s.size) = false := by simp; omega
      have he := rest_end s tb k j (by omega) hk HR.out
      have q2 : ((k : Int) == (tb.size : Int)) = true := by rw [he]; simp
      have hfin := Lib.hid (hb.out.trans (hw.mono hb.out.size))
      clear he
      go_wp2
      go_ret
      exact ⟨rfl, hfin.out⟩

set_option maxRecDepth 100000 in
set_option maxHeartbeats 4000000 in
theorem walk_nb (s tb : ByteArray) (i : Int) (hs : s.size ≤ 600) (htz : tb.size ≤ 600) (h0 : 0 < tb.size) (htight : Hid (Tight tb.data.toList)) (hi : 0 ≤ i) (hi2 : (tb.size : Int) ≤ i) (w : World) (HT : Hid ((⟨(clean s.data.toList).toArray⟩ : ByteArray) = tb)) (hrest : Hid (Rest s tb 0 0)) :
    Calls Try.prog 8 #[.string s, .int .i64 i] w fun e w' => e = .returned (.bool true) ∧ Below w.heap.size w w' := by
  have n1 : decide ((600 : Int) < s.size) = false := by simp; omega
  obtain ⟨f0, fl⟩ := ends_ok tb htight.out h0
  have e1 : ¬ tb.toList = [] := fun e => by have := toList_length tb; rw [e] at this; simp at this; omega
  have e2 : tb.toList.isEmpty = false := by simpa using e1
  have f1 : (32 : Int) < (tb[tb.size - 1].toNat : Int) := fl (tb.size - 1) (by omega) (by omega)
  have g0 : decide ((tb[0].toNat : Int) ≤ 32) = false := by simp; omega
  have g1 : decide ((tb[tb.size - 1].toNat : Int) ≤ 32) = false := by simp; omega
  clear fl
  have q1 : decide (0 ≤ i) = true := by simp; omega
  have q2 : decide (i < (tb.size : Int)) = false := by simp; omega
  go_enter Try.func8, Try.ntmps8
  go_wp2_with fail
  refine (awake_calls _).mono ?_
  rintro e u1 ⟨rfl, hB1⟩
  go_wp2_with fail
  refine (clean_calls s (by unfold maxLen; omega) (by omega) _).mono ?_
  rintro e u2 ⟨rfl, hB2⟩
  rw [HT.out]
  have hb := Lib.hid (below2 hB1 hB2)
  clear hB1 hB2
  go_wp2_with fail
  go_loopw [7, 8] (fun kk jj wr => ∃ k j : Nat, k ≤ tb.size ∧ j ≤ s.size ∧ kk = .int .i64 k ∧ jj = .int .i64 j ∧ Rest s tb k j ∧ Below u2.heap.size u2 wr) (fun _ jj _ => s.size - (intOf jj).toNat)
  case atStart => exact ⟨0, 0, Nat.zero_le _, Nat.zero_le _, rfl, rfl, hrest.out, Below.refl _ _⟩
  case round =>
    obtain ⟨k, j, hk, hj, rfl, rfl, hr, hw⟩ := hrel
    have HR := Lib.hid hr
    clear hr
    by_cases hlt : j < s.size
    · have t1 : (j : Int) < s.size := by omega
      by_cases hkt : k < tb.size
      · have t2 : (k : Int) < tb.size := by omega
        by_cases he : s[j] = tb[k]
        · have q1 : ((s[j].toNat : Int) == (tb[k].toNat : Int)) = true := by rw [he]; simp
          have HR2 := Lib.hid (rest_hit s tb k j hkt hlt HR.out he)
          clear he
          go_wp2_with fail
          go_quiet (fail)
          go_wp2
          go_roundw
          case rel => exact ⟨k + 1, j + 1, by omega, by omega, by go_num, by go_num, HR2.out, below_drewN hw _⟩
          case measure => simp [intOf]; omega
        · have q1 : ((s[j].toNat : Int) == (tb[k].toNat : Int)) = false := by
            rw [beq_eq_false_iff_ne]
            intro h
            exact he (UInt8.toNat_inj.1 (by omega))
          have HR2 := Lib.hid (rest_miss s tb k j hkt hlt HR.out he)
          clear he
          go_wp2_with fail
          go_quiet (fail)
          go_wp2
          go_roundw
          case rel => exact ⟨k, j + 1, by omega, by omega, rfl, by go_num, HR2.out, below_drewN hw _⟩
          case measure => simp [intOf]; omega
      · have q1 : decide ((k : Int) < tb.size) = false := by simp; omega
        have q2 : ((k : Int) == (tb.size : Int)) = true := by rw [beq_iff_eq]; omega
        have hfin := Lib.hid (hb.out.trans (hw.mono hb.out.size))
        go_wp2
        go_ret
        exact ⟨rfl, hfin.out⟩
    · have q0 : decide ((j : Int) < s.size) = false := by simp; omega
      have he := rest_end s tb k j (by omega) hk HR.out
      have q2 : ((k : Int) == (tb.size : Int)) = true := by rw [he]; simp
      have hfin := Lib.hid (hb.out.trans (hw.mono hb.out.size))
      clear he
      go_wp2
      go_ret
      exact ⟨rfl, hfin.out⟩

set_option maxRecDepth 100000 in
set_option maxHeartbeats 4000000 in
theorem walk_nc (s tb : ByteArray) (i : Int) (hs : s.size ≤ 600) (htz : tb.size ≤ 600) (h0 : 0 < tb.size) (htight : Hid (Tight tb.data.toList)) (hiq : 0 ≤ i) (hq : i.toNat < tb.size) (w : World) (HT : Hid ((⟨(clean s.data.toList).toArray⟩ : ByteArray) = tb)) (hrest : Hid (Rest s tb 0 0)) :
    Calls Try.prog 8 #[.string s, .int .i64 i] w fun e w' => e = .returned (.bool true) ∧ Below w.heap.size w w' := by
  have n1 : decide ((600 : Int) < s.size) = false := by simp; omega
  obtain ⟨f0, fl⟩ := ends_ok tb htight.out h0
  have e1 : ¬ tb.toList = [] := fun e => by have := toList_length tb; rw [e] at this; simp at this; omega
  have e2 : tb.toList.isEmpty = false := by simpa using e1
  have f1 : (32 : Int) < (tb[tb.size - 1].toNat : Int) := fl (tb.size - 1) (by omega) (by omega)
  have g0 : decide ((tb[0].toNat : Int) ≤ 32) = false := by simp; omega
  have g1 : decide ((tb[tb.size - 1].toNat : Int) ≤ 32) = false := by simp; omega
  clear fl
  have q1 : decide (0 ≤ i) = true := by simp; omega
  have q2 : decide (i < (tb.size : Int)) = true := by simp; omega
  obtain ⟨q3, q4, q5⟩ := clean_no s i.toNat tb HT.out hq
  go_enter Try.func8, Try.ntmps8
  go_wp2_with fail
  refine (awake_calls _).mono ?_
  rintro e u1 ⟨rfl, hB1⟩
  go_wp2_with fail
  refine (clean_calls s (by unfold maxLen; omega) (by omega) _).mono ?_
  rintro e u2 ⟨rfl, hB2⟩
  rw [HT.out]
  have hb := Lib.hid (below2 hB1 hB2)
  clear hB1 hB2
  go_wp2_with fail
  go_loopw [7, 8] (fun kk jj wr => ∃ k j : Nat, k ≤ tb.size ∧ j ≤ s.size ∧ kk = .int .i64 k ∧ jj = .int .i64 j ∧ Rest s tb k j ∧ Below u2.heap.size u2 wr) (fun _ jj _ => s.size - (intOf jj).toNat)
  case atStart => exact ⟨0, 0, Nat.zero_le _, Nat.zero_le _, rfl, rfl, hrest.out, Below.refl _ _⟩
  case round =>
    obtain ⟨k, j, hk, hj, rfl, rfl, hr, hw⟩ := hrel
    have HR := Lib.hid hr
    clear hr
    by_cases hlt : j < s.size
    · have t1 : (j : Int) < s.size := by omega
      by_cases hkt : k < tb.size
      · have t2 : (k : Int) < tb.size := by omega
        by_cases he : s[j] = tb[k]
        · have q1 : ((s[j].toNat : Int) == (tb[k].toNat : Int)) = true := by rw [he]; simp
          have HR2 := Lib.hid (rest_hit s tb k j hkt hlt HR.out he)
          clear he
          go_wp2_with fail
          go_quiet (fail)
          go_wp2
          go_roundw
          case rel => exact ⟨k + 1, j + 1, by omega, by omega, by go_num, by go_num, HR2.out, below_drewN hw _⟩
          case measure => simp [intOf]; omega
        · have q1 : ((s[j].toNat : Int) == (tb[k].toNat : Int)) = false := by
            rw [beq_eq_false_iff_ne]
            intro h
            exact he (UInt8.toNat_inj.1 (by omega))
          have HR2 := Lib.hid (rest_miss s tb k j hkt hlt HR.out he)
          clear he
          go_wp2_with fail
          go_quiet (fail)
          go_wp2
          go_roundw
          case rel => exact ⟨k, j + 1, by omega, by omega, rfl, by go_num, HR2.out, below_drewN hw _⟩
          case measure => simp [intOf]; omega
      · have q1 : decide ((k : Int) < tb.size) = false := by simp; omega
        have q2 : ((k : Int) == (tb.size : Int)) = true := by rw [beq_iff_eq]; omega
        have hfin := Lib.hid (hb.out.trans (hw.mono hb.out.size))
        go_wp2
        go_ret
        exact ⟨rfl, hfin.out⟩
    · have q0 : decide ((j : Int) < s.size) = false := by simp; omega
      have he := rest_end s tb k j (by omega) hk HR.out
      have q2 : ((k : Int) == (tb.size : Int)) = true := by rw [he]; simp
      have hfin := Lib.hid (hb.out.trans (hw.mono hb.out.size))
      clear he
      go_wp2
      go_ret
      exact ⟨rfl, hfin.out⟩

set_option maxRecDepth 100000 in
set_option maxHeartbeats 4000000 in
theorem walkOut (s : ByteArray) (i : Int) (w : World) (hs : s.size ≤ maxLen) (h : ¬ s.size ≤ 600) :
    Calls Try.prog 8 #[.string s, .int .i64 i] w fun e w' => e = .returned (.bool true) ∧ Below w.heap.size w w' := by
  unfold maxLen at hs
  have n1 : decide ((600 : Int) < s.size) = true := by simp; omega
  clear h
  go_enter Try.func8, Try.ntmps8
  go_wp2_with fail
  refine (awake_calls _).mono ?_
  rintro e u1 ⟨rfl, hB1⟩
  go_wp2_with fail
  all_goals (go_ret; exact ⟨rfl, hB1⟩)

theorem walk (a0 : ByteArray) (a1 : Int) (w0 : a0.size ≤ maxLen) (w1 : (Lit.int .i64 a1).wf = true) (w : World) :
    Calls Try.prog 8 #[.string a0, .int .i64 a1] w fun e w' => e = .returned (.bool true) ∧ Below w.heap.size w w' := by
  by_cases h : a0.size ≤ 600
  · have hz : (⟨(clean a0.data.toList).toArray⟩ : ByteArray).size ≤ 600 := by
      show (clean a0.data.toList).length ≤ 600
      have := (clean_sub a0.data.toList).length_le
      have e : a0.data.toList.length = a0.size := rfl
      omega
    have hr : Rest a0 ⟨(clean a0.data.toList).toArray⟩ 0 0 := by
      show List.Sublist (List.drop 0 (clean a0.data.toList)) (List.drop 0 a0.data.toList)
      simpa using clean_sub a0.data.toList
    have ht : Tight (⟨(clean a0.data.toList).toArray⟩ : ByteArray).data.toList := tight_clean _
    by_cases h0 : (⟨(clean a0.data.toList).toArray⟩ : ByteArray).size = 0
    · by_cases hi : a1 < 0
      · exact walk_ea a0 _ a1 h hz h0 hi w (Lib.hid rfl) (Lib.hid hr)
      · exact walk_eb a0 _ a1 h hz h0 (by omega) w (Lib.hid rfl) (Lib.hid hr)
    · by_cases hi : a1 < 0
      · exact walk_na a0 _ a1 h hz (by omega) (Lib.hid ht) hi w (Lib.hid rfl) (Lib.hid hr)
      · by_cases hi2 : ((⟨(clean a0.data.toList).toArray⟩ : ByteArray).size : Int) ≤ a1
        · exact walk_nb a0 _ a1 h hz (by omega) (Lib.hid ht) (by omega) hi2 w (Lib.hid rfl) (Lib.hid hr)
        · exact walk_nc a0 _ a1 h hz (by omega) (Lib.hid ht) (by omega) (by omega) w (Lib.hid rfl) (Lib.hid hr)
  · exact walkOut a0 a1 w w0 h

/-! ### The row's step -/
set_option maxRecDepth 100000 in
theorem lifted (os : Os) (started : os.Started) (H : Type) (enc : TypeId × Value → H) :
    ReturnsInHanded {} Try.checked os 8 .any (Rows.asciiCleanSpec.pre6 enc Try.prog Try.f8 Rows.asciiCleanRow.domain false) (Rows.asciiCleanSpec.post enc Try.prog Try.f8 false true false false) := by
  refine returnsInHanded_of_change (C := Try.checked) own started (by kernel_rfl) Try.func8
    (ChangeSpec.witness6 (enc := enc) (C := Try.checked) false ⟨#[], #[.string ByteArray.empty, .int .i64 0], []⟩ 8 (by kernel_rfl) (by kernel_rfl) (by kernel_rfl) (by kernel_rfl)) ?_
  intro W base args ds gs before hval0 hW hcnd _
  have hval : ∀ (j : Nat) t v, Try.f8.params[j]? = some t → args[j]? = some v → Value.okWide Try.prog W .any base t v := hval0
  have hW' := hW
  obtain ⟨p, q, hA0, hV, rfl, hfz, hnd⟩ := hW
  have hA : DataW.TrodAll enc Try.prog W 0 (fun _ => true) true Try.f8.params.toList args.toList ds p := hA0
  rw [Try.params8] at hA hval
  obtain ⟨v0, vs0, d0, ds0, p0, q0, hargs, rfl, rfl, h0, r0⟩ := trodAll_cons hA
  obtain ⟨v1, vs1, d1, ds1, p1, q1, rfl, rfl, rfl, h1, r1⟩ := trodAll_cons r0
  obtain ⟨rfl, rfl, rfl⟩ := trodAll_nil r1
  obtain rfl : args = #[v0, v1] := by cases args; simp_all
  obtain ⟨rfl, rfl⟩ := trodVars_none hV
  obtain ⟨a0, rfl, rfl, rfl, w0⟩ := open_string Try.underlying9 (hval 0 9 v0 rfl rfl) h0
  obtain ⟨a1, rfl, rfl, rfl, w1⟩ := open_int Try.underlying3 (hval 1 3 v1 rfl rfl) h1
  clear hA0 hval0
  simp only [List.append_nil] at hW'
  refine (walk a0 a1 w0 w1 W).mono fun e W' ⟨he, hg⟩ => ?_
  subst he
  exact ⟨_, rfl, _, _, _, [], _, [], hW', trodAll_mk1 (shut_bool Try.underlying4 _), (trodAll_cons_mk (shut_string Try.underlying9 w0) (trodAll_cons_mk (shut_int Try.underlying3 w1) trodAll_mk0)), rfl, hg.frame _, fun h => by cases h⟩

theorem over : Rows.asciiCleanRow.holds Try.pinned (OpenSpec.ofChange Rows.asciiCleanSpec) :=
  OpenClaim.holds_of_wide 8 Try.f8 rfl rfl rfl rfl rfl rfl rfl ⟨rfl, rfl, rfl, rfl, rfl⟩ rfl rfl rfl rfl rfl (by kernel_rfl) Try.func8 (by kernel_rfl)
    (of_decide_eq_true (by kernel_rfl)) (by unfold Func.isWrapper; first | (rw [if_pos (by decide +kernel)]; kernel_rfl) | (rw [if_neg (by decide +kernel)]; exact ⟨rfl, rfl⟩))
    (fun os started H enc _ => lifted os started H enc)

/-- The statement. -/
theorem proved : Rows.AsciiCleanSaid :=
  over
#print axioms proved
end Go.Proofs.Ytmhoooenolackaa.asciiClean
