/-
  The law AsciiTrim holds for every input: for every text, every two numbers and every byte the call returns true and leaves what was there as it was. No condition.
-/
import Derived.Test.YtmhoooenolackaaRows
import Derived.WalkKit
import Derived.ProofKit
import Derived.OpenShut
import Derived.ShutString
import Derived.Test.YtmhoooenolackaaAid
namespace Go.Proofs.Ytmhoooenolackaa.asciiTrim
open Go.ChangeShapes Go.WideShapes Go.ChangeAt Go.RowKit
open Go.ChangeMaps (open_string shut_string)
open Go.Shelf
set_option linter.unusedSimpArgs false
set_option linter.unusedVariables false      -- a walk need not use every 'w<i>' (that an integer argument fits its kind)

theorem own : ownKnob Try.prog.godebug = none := by kernel_rfl

theorem kc (w : World) (x : UInt8) : (convert 30 9 (.slice (some ⟨w.heap.size, 0, none⟩) 1 1)).run Try.prog (w.alloc (.cells #[.int .u8 (x.toNat : Int)] 5)) = .ok (.string ⟨#[x]⟩) (w.alloc (.cells #[.int .u8 (x.toNat : Int)] 5)) := by
  refine run_convert_bytes_back (w.alloc (.cells #[.int .u8 (x.toNat : Int)] 5)) 30 9 5 ⟨w.heap.size, 0, none⟩ 1 [x] Try.underlying30 Try.underlying5 Try.underlying9 ?_
  intro j hj
  obtain rfl : j = 0 := by simpa using hj
  exact (Boxed.new w 5 (.int .u8 (x.toNat : Int))).cell
theorem asByte (a : Int) (h : (Lit.int .u8 a).wf = true) : ∃ c : UInt8, a = (c.toNat : Int) := by
  have hb := bounds_u8 h
  refine ⟨UInt8.ofNat a.toNat, ?_⟩
  simp
  omega
def padF (c : UInt8) (s : ByteArray) (k : Nat) : ByteArray := ⟨(List.replicate k c ++ s.data.toList).toArray⟩
def padB (c : UInt8) (s : ByteArray) (k : Nat) : ByteArray := ⟨(s.data.toList ++ List.replicate k c).toArray⟩
theorem append_eq (a b : ByteArray) : a ++ b = ⟨(a.data.toList ++ b.data.toList).toArray⟩ := by
  apply ByteArray.ext
  rw [ByteArray.data_append]
  simp
theorem padF_succ (c : UInt8) (s : ByteArray) (k : Nat) : (⟨#[c]⟩ : ByteArray) ++ padF c s k = padF c s (k + 1) := by
  rw [append_eq]
  simp [padF, List.replicate_succ]
theorem padB_succ (c : UInt8) (s : ByteArray) (k : Nat) : padB c s k ++ (⟨#[c]⟩ : ByteArray) = padB c s (k + 1) := by
  rw [append_eq]
  simp [padB, List.replicate_succ']
theorem padF_zero (c : UInt8) (s : ByteArray) : padF c s 0 = s := by
  apply ByteArray.ext
  simp [padF]
theorem padB_zero (c : UInt8) (s : ByteArray) : padB c s 0 = s := by
  apply ByteArray.ext
  simp [padB]
theorem padF_size (c : UInt8) (s : ByteArray) (k : Nat) : (padF c s k).size = k + s.size := by
  show (List.replicate k c ++ s.data.toList).length = _
  rw [List.length_append, List.length_replicate]; rfl
theorem padB_size (c : UInt8) (s : ByteArray) (k : Nat) : (padB c s k).size = s.size + k := by
  show (s.data.toList ++ List.replicate k c).length = _
  rw [List.length_append, List.length_replicate]; rfl
theorem trim_cons (c : UInt8) (l : List UInt8) (h : lowish c = true) : trim (c :: l) = trim l := by simp [trim, h]
theorem trim_snoc (c : UInt8) (l : List UInt8) (h : lowish c = true) : trim (l ++ [c]) = trim l := by
  show dropEnd (outL (l ++ [c])) = dropEnd (outL l)
  by_cases h0 : outL l = []
  · rw [outL_skip l c h h0, h0]
  · rw [outL_add l c (.inr h0), dropEnd_ws _ _ h]
theorem trim_padF (c : UInt8) (s : ByteArray) (k : Nat) (h : lowish c = true) : trim (padF c s k).data.toList = trim s.data.toList := by
  show trim (List.replicate k c ++ s.data.toList) = _
  induction k with
  | zero => rfl
  | succ k ih => rw [List.replicate_succ, List.cons_append, trim_cons _ _ h, ih]
theorem trim_padB (c : UInt8) (s : ByteArray) (k : Nat) (h : lowish c = true) : trim (padB c s k).data.toList = trim s.data.toList := by
  show trim (s.data.toList ++ List.replicate k c) = _
  induction k with
  | zero => simp
  | succ k ih => rw [List.replicate_succ', ← List.append_assoc, trim_snoc _ _ h, ih]
theorem trim_pad (c : UInt8) (s : ByteArray) (n m : Nat) (h : lowish c = true) : trim (padB c (padF c s n) m).data.toList = trim s.data.toList := by
  rw [trim_padB _ _ _ h, trim_padF _ _ _ h]
theorem clean_pad (c : UInt8) (s : ByteArray) (n m : Nat) (h : lowish c = true) : clean (padB c (padF c s n) m).data.toList = clean s.data.toList := by
  rw [clean_eq, clean_eq, trim_pad _ _ _ _ h]
theorem lowish_no (c : UInt8) (h : lowish c = false) : 32 < (c.toNat : Int) := by
  simp [lowish] at h
  omega
theorem ends_ok (tb : ByteArray) (h : Tight tb.data.toList) (h0 : 0 < tb.size) : 32 < (tb[0].toNat : Int) ∧ ∀ j (hj : j < tb.size), j + 1 = tb.size → 32 < (tb[j].toNat : Int) := by
  rcases h with h | ⟨⟨c, r, h, hc⟩, r', c', h', hc'⟩
  · exfalso
    have : tb.data.toList.length = tb.size := rfl
    rw [h] at this
    simp at this
    omega
  · refine ⟨?_, fun j hj e => ?_⟩
    · have a : tb.data.toList[0]? = some tb[0] := List.getElem?_eq_getElem (l := tb.data.toList) (i := 0) h0
      rw [h] at a
      have b : c = tb[0] := by simpa using a
      rw [← b]
      exact lowish_no c hc
    · have a : tb.data.toList[j]? = some tb[j] := List.getElem?_eq_getElem (l := tb.data.toList) (i := j) hj
      have hz : tb.data.toList.length = tb.size := rfl
      rw [h'] at a hz
      have hj' : j = r'.length := by simp at hz; omega
      have a' : (r' ++ [c'])[r'.length]? = some tb[j] := (congrArg (fun i => (r' ++ [c'])[i]?) hj').symm.trans a
      have b : c' = tb[j] := by simpa using a'
      rw [← b]
      exact lowish_no c' hc'
theorem toList_length (b : ByteArray) : b.toList.length = b.size := by rw [ByteArray.toList_eq]; rfl
set_option maxRecDepth 100000 in
set_option maxHeartbeats 4000000 in
theorem walkIn (s tb : ByteArray) (n m : Nat) (c : UInt8) (hs : s.size ≤ 200) (hn : n ≤ 20) (hm : m ≤ 20) (hc : lowish c = true) (w : World) (HT : Hid ((⟨(trim s.data.toList).toArray⟩ : ByteArray) = tb)) (htight : Hid (Tight tb.data.toList)) (htz : tb.size ≤ 200) :
    Calls Try.prog 6 #[.string s, .int .i64 (n : Int), .int .i64 (m : Int), .int .u8 (c.toNat : Int)] w fun e w' => e = .returned (.bool true) ∧ Below w.heap.size w w' := by
  have n1 : decide ((200 : Int) < s.size) = false := by simp; omega
  have n2 : decide ((n : Int) < 0) = false := by simp
  have n3 : decide ((m : Int) < 0) = false := by simp
  have n4 : decide ((20 : Int) < n) = false := by simp; omega
  have n5 : decide ((20 : Int) < m) = false := by simp; omega
  have n6 : decide ((32 : Int) < c.toNat) = false := by simp [lowish] at hc; simp; omega
  have HC := Lib.hid hc
  clear hc
  go_enter Try.func6, Try.ntmps6
  go_wp2_with fail
  refine (awake_calls _).mono ?_
  rintro e u1 ⟨rfl, hB1⟩
  go_wp2_with fail
  refine (trim_calls s (by unfold maxLen; omega) (by omega) _).mono ?_
  rintro e u2 ⟨rfl, hB2⟩
  rw [HT.out]
  have hb := Lib.hid (below2 hB1 hB2)
  clear hB1 hB2
  go_wp2_with fail
  go_loopw [11, 12] (fun wd i wr => ∃ k : Nat, k ≤ n ∧ wd = .string (padF c s k) ∧ i = .int .i64 k ∧ Below u2.heap.size u2 wr) (fun _ i _ => n - (intOf i).toNat)
  case atStart => exact ⟨0, Nat.zero_le _, by rw [padF_zero], rfl, Below.refl _ _⟩
  case round =>
    obtain ⟨k, hk, rfl, rfl, hw⟩ := hrel
    have k0 := kc wr c
    have z0 : (padF c s k).size ≤ 220 := by rw [padF_size]; omega
    by_cases hlt : k < n
    · go_wp2
      go_roundw
      case rel => exact ⟨k + 1, by omega, by rw [padF_succ], by go_num, hw.alloc hw.size _⟩
      case measure => simp [intOf]; omega
    · obtain rfl : n = k := by omega
      clear k0 hlt
      go_wp2_with fail
      generalize hp : padF c s n = pf at *
      have HP := Lib.hid hp
      clear hp
      rename_i wa _ _ _
      go_loopw [11, 13] (fun wd i wr => ∃ k : Nat, k ≤ m ∧ wd = .string (padB c pf k) ∧ i = .int .i64 k ∧ Below u2.heap.size u2 wr) (fun _ i _ => m - (intOf i).toNat)
      case atStart => exact ⟨0, Nat.zero_le _, by rw [padB_zero], rfl, hw⟩
      case round =>
        clear hw
        obtain ⟨k, hk, rfl, rfl, hw⟩ := hrel
        have k0 := kc wr c
        have z1 : (padB c pf k).size ≤ 240 := by rw [padB_size]; omega
        by_cases hlt : k < m
        · go_wp2
          go_roundw
          case rel => exact ⟨k + 1, by omega, by rw [padB_succ], by go_num, hw.alloc hw.size _⟩
          case measure => simp [intOf]; omega
        · obtain rfl : m = k := by omega
          clear k0 hlt
          have hT := trim_pad c s n m HC.out
          have hCl := clean_pad c s n m HC.out
          rw [HP.out] at hT hCl
          generalize hq : padB c pf m = pb at *
          have HT2 := Lib.hid hT
          have HCl := Lib.hid hCl
          clear hT hCl hq
          by_cases h0 : 0 < tb.size
          · obtain ⟨f0, fl⟩ := ends_ok tb htight.out h0
            have e1 : ¬ tb.toList = [] := fun e => by have := toList_length tb; rw [e] at this; simp at this; omega
            have e2 : tb.toList.isEmpty = false := by simpa using e1
            have f1 : (32 : Int) < (tb[tb.size - 1].toNat : Int) := fl (tb.size - 1) (by omega) (by omega)
            clear fl
            go_wp2_with fail
            refine (trim_calls pb (by unfold maxLen; omega) (by omega) _).mono ?_
            rintro e u3 ⟨rfl, hB3⟩
            rw [HT2.out, HT.out]
            go_wp2_with fail
            refine (clean_calls pb (by unfold maxLen; omega) (by omega) _).mono ?_
            rintro e u4 ⟨rfl, hB4⟩
            rw [HCl.out]
            go_wp2_with fail
            refine (clean_calls s (by unfold maxLen; omega) (by omega) _).mono ?_
            rintro e u5 ⟨rfl, hB5⟩
            have hfin := Lib.hid (below4 (below2 hb.out hw) hB3 hB4 hB5)
            clear hB3 hB4 hB5 hw
            go_wp2
            go_ret
            exact ⟨rfl, hfin.out⟩
          · have e1 : tb.toList = [] := List.eq_nil_of_length_eq_zero (by rw [toList_length]; omega)
            go_wp2_with fail
            refine (trim_calls pb (by unfold maxLen; omega) (by omega) _).mono ?_
            rintro e u3 ⟨rfl, hB3⟩
            rw [HT2.out, HT.out]
            go_wp2_with fail
            refine (clean_calls pb (by unfold maxLen; omega) (by omega) _).mono ?_
            rintro e u4 ⟨rfl, hB4⟩
            rw [HCl.out]
            go_wp2_with fail
            refine (clean_calls s (by unfold maxLen; omega) (by omega) _).mono ?_
            rintro e u5 ⟨rfl, hB5⟩
            have hfin := Lib.hid (below4 (below2 hb.out hw) hB3 hB4 hB5)
            clear hB3 hB4 hB5 hw
            go_wp2
            go_ret
            exact ⟨rfl, hfin.out⟩
set_option maxRecDepth 100000 in
set_option maxHeartbeats 4000000 in
theorem walkOut (s : ByteArray) (n m c : Int) (w : World) (hs : s.size ≤ maxLen) (h : ¬ (s.size ≤ 200 ∧ 0 ≤ n ∧ 0 ≤ m ∧ n ≤ 20 ∧ m ≤ 20 ∧ c ≤ 32)) :
    Calls Try.prog 6 #[.string s, .int .i64 n, .int .i64 m, .int .u8 c] w fun e w' => e = .returned (.bool true) ∧ Below w.heap.size w w' := by
  unfold maxLen at hs
  by_cases h1 : s.size ≤ 200
  · have n1 : decide ((200 : Int) < s.size) = false := by simp; omega
    by_cases h2 : 0 ≤ n
    · have n2 : decide (n < 0) = false := by simp; omega
      by_cases h3 : 0 ≤ m
      · have n3 : decide (m < 0) = false := by simp; omega
        by_cases h4 : n ≤ 20
        · have n4 : decide (20 < n) = false := by simp; omega
          by_cases h5 : m ≤ 20
          · have n5 : decide (20 < m) = false := by simp; omega
            have n6 : decide (32 < c) = true := by simp; omega
            clear h h1 h2 h3 h4 h5
            go_enter Try.func6, Try.ntmps6
            go_wp2_with fail
            refine (awake_calls _).mono ?_
            rintro e u1 ⟨rfl, hB1⟩
            go_wp2_with fail
            all_goals (go_ret; exact ⟨rfl, hB1⟩)
          · have n5 : decide (20 < m) = true := by simp; omega
            clear h h1 h2 h3 h4 h5
            go_enter Try.func6, Try.ntmps6
            go_wp2_with fail
            refine (awake_calls _).mono ?_
            rintro e u1 ⟨rfl, hB1⟩
            go_wp2_with fail
            all_goals (go_ret; exact ⟨rfl, hB1⟩)
        · have n4 : decide (20 < n) = true := by simp; omega
          clear h h1 h2 h3 h4
          go_enter Try.func6, Try.ntmps6
          go_wp2_with fail
          refine (awake_calls _).mono ?_
          rintro e u1 ⟨rfl, hB1⟩
          go_wp2_with fail
          all_goals (go_ret; exact ⟨rfl, hB1⟩)
      · have n3 : decide (m < 0) = true := by simp; omega
        clear h h1 h2 h3
        go_enter Try.func6, Try.ntmps6
        go_wp2_with fail
        refine (awake_calls _).mono ?_
        rintro e u1 ⟨rfl, hB1⟩
        go_wp2_with fail
        all_goals (go_ret; exact ⟨rfl, hB1⟩)
    · have n2 : decide (n < 0) = true := by simp; omega
      clear h h1 h2
      go_enter Try.func6, Try.ntmps6
      go_wp2_with fail
      refine (awake_calls _).mono ?_
      rintro e u1 ⟨rfl, hB1⟩
      go_wp2_with fail
      all_goals (go_ret; exact ⟨rfl, hB1⟩)
  · have n1 : decide ((200 : Int) < s.size) = true := by simp; omega
    clear h h1
    go_enter Try.func6, Try.ntmps6
    go_wp2_with fail
    refine (awake_calls _).mono ?_
    rintro e u1 ⟨rfl, hB1⟩
    go_wp2_with fail
    all_goals (go_ret; exact ⟨rfl, hB1⟩)

theorem walk (a0 : ByteArray) (a1 : Int) (a2 : Int) (a3 : Int) (w0 : a0.size ≤ maxLen) (w1 : (Lit.int .i64 a1).wf = true) (w2 : (Lit.int .i64 a2).wf = true) (w3 : (Lit.int .u8 a3).wf = true) (w : World) :
    Calls Try.prog 6 #[.string a0, .int .i64 a1, .int .i64 a2, .int .u8 a3] w fun e w' => e = .returned (.bool true) ∧ Below w.heap.size w w' := by
  by_cases h : a0.size ≤ 200 ∧ 0 ≤ a1 ∧ 0 ≤ a2 ∧ a1 ≤ 20 ∧ a2 ≤ 20 ∧ a3 ≤ 32
  · obtain ⟨h1, h2, h3, h4, h5, h6⟩ := h
    obtain ⟨n, rfl⟩ := Int.eq_ofNat_of_zero_le h2
    obtain ⟨m, rfl⟩ := Int.eq_ofNat_of_zero_le h3
    obtain ⟨c, rfl⟩ := asByte a3 w3
    refine walkIn a0 _ n m c h1 (by omega) (by omega) (by simp [lowish]; omega) w (Lib.hid rfl) (Lib.hid ?_) ?_
    · show Tight (trim a0.data.toList)
      exact tight_trim _
    · show (trim a0.data.toList).length ≤ 200
      have := trim_length a0.data.toList
      have e : a0.data.toList.length = a0.size := rfl
      omega
  · exact walkOut a0 a1 a2 a3 w w0 h

/-! ### The row's step -/
set_option maxRecDepth 100000 in
theorem lifted (os : Os) (started : os.Started) (H : Type) (enc : TypeId × Value → H) :
    ReturnsInHanded {} Try.checked os 6 .any (Rows.asciiTrimSpec.pre6 enc Try.prog Try.f6 Rows.asciiTrimRow.domain false) (Rows.asciiTrimSpec.post enc Try.prog Try.f6 false true false false) := by
  refine returnsInHanded_of_change (C := Try.checked) own started (by kernel_rfl) Try.func6
    (ChangeSpec.witness6 (enc := enc) (C := Try.checked) false ⟨#[], #[.string ByteArray.empty, .int .i64 0, .int .i64 0, .int .u8 0], []⟩ 8 (by kernel_rfl) (by kernel_rfl) (by kernel_rfl) (by kernel_rfl)) ?_
  intro W base args ds gs before hval0 hW hcnd _
  have hval : ∀ (j : Nat) t v, Try.f6.params[j]? = some t → args[j]? = some v → Value.okWide Try.prog W .any base t v := hval0
  have hW' := hW
  obtain ⟨p, q, hA0, hV, rfl, hfz, hnd⟩ := hW
  have hA : DataW.TrodAll enc Try.prog W 0 (fun _ => true) true Try.f6.params.toList args.toList ds p := hA0
  rw [Try.params6] at hA hval
  obtain ⟨v0, vs0, d0, ds0, p0, q0, hargs, rfl, rfl, h0, r0⟩ := trodAll_cons hA
  obtain ⟨v1, vs1, d1, ds1, p1, q1, rfl, rfl, rfl, h1, r1⟩ := trodAll_cons r0
  obtain ⟨v2, vs2, d2, ds2, p2, q2, rfl, rfl, rfl, h2, r2⟩ := trodAll_cons r1
  obtain ⟨v3, vs3, d3, ds3, p3, q3, rfl, rfl, rfl, h3, r3⟩ := trodAll_cons r2
  obtain ⟨rfl, rfl, rfl⟩ := trodAll_nil r3
  obtain rfl : args = #[v0, v1, v2, v3] := by cases args; simp_all
  obtain ⟨rfl, rfl⟩ := trodVars_none hV
  obtain ⟨a0, rfl, rfl, rfl, w0⟩ := open_string Try.underlying9 (hval 0 9 v0 rfl rfl) h0
  obtain ⟨a1, rfl, rfl, rfl, w1⟩ := open_int Try.underlying3 (hval 1 3 v1 rfl rfl) h1
  obtain ⟨a2, rfl, rfl, rfl, w2⟩ := open_int Try.underlying3 (hval 2 3 v2 rfl rfl) h2
  obtain ⟨a3, rfl, rfl, rfl, w3⟩ := open_int Try.underlying5 (hval 3 5 v3 rfl rfl) h3
  clear hA0 hval0
  simp only [List.append_nil] at hW'
  refine (walk a0 a1 a2 a3 w0 w1 w2 w3 W).mono fun e W' ⟨he, hg⟩ => ?_
  subst he
  exact ⟨_, rfl, _, _, _, [], _, [], hW', trodAll_mk1 (shut_bool Try.underlying4 _), (trodAll_cons_mk (shut_string Try.underlying9 w0) (trodAll_cons_mk (shut_int Try.underlying3 w1) (trodAll_cons_mk (shut_int Try.underlying3 w2) (trodAll_cons_mk (shut_int Try.underlying5 w3) trodAll_mk0)))), rfl, hg.frame _, fun h => by cases h⟩

theorem over : Rows.asciiTrimRow.holds Try.pinned (OpenSpec.ofChange Rows.asciiTrimSpec) :=
  OpenClaim.holds_of_wide 6 Try.f6 rfl rfl rfl rfl rfl rfl rfl ⟨rfl, rfl, rfl, rfl, rfl⟩ rfl rfl rfl rfl rfl (by kernel_rfl) Try.func6 (by kernel_rfl)
    (of_decide_eq_true (by kernel_rfl)) (by unfold Func.isWrapper; first | (rw [if_pos (by decide +kernel)]; kernel_rfl) | (rw [if_neg (by decide +kernel)]; exact ⟨rfl, rfl⟩))
    (fun os started H enc _ => lifted os started H enc)

/-- The statement. -/
theorem proved : Rows.AsciiTrimSaid :=
  over
#print axioms proved
end Go.Proofs.Ytmhoooenolackaa.asciiTrim
